"""Lengths, kinds, expressions, rows and values, each with the text that writes it."""

from small import A, B, C, M, N, NOUGHT, WHOLE, ZERO, name, number, pair, place, row, size

LENGTHS = [
    (NOUGHT, "0"), (size(3), "3"), (size(99), "99"), (N, "n"), (size(n=2), "2*n"), (size(3, m=1, n=2), "m+2*n+3"),
    (size(1, n=1), "n+1"), (size(m=99, n=99), "99*m+99*n"), (size(10, z=10), "10*z+10"),
    (size(abcdefgh=1, b=1), "abcdefgh+b"), (size(a=1, aa=1, b=1), "a+aa+b"), (size(whole=2), "2*whole"),
]
GREAT_LENGTHS = [
    (size(100), "100"), (size(n=100), "100*n"), (size(10 ** 60 - 1, n=10 ** 60 - 1), "9" * 60 + "*n+" + "9" * 60),
]
LONG_KIND = pair(pair(pair(WHOLE, WHOLE), WHOLE), pair(WHOLE, row(N, pair(WHOLE, WHOLE))))
KINDS = [
    (WHOLE, "whole"), (place(size(3, m=1, n=2)), "place(m+2*n+3)"), (place(NOUGHT), "place(0)"), (row(N), "row(n, whole)"),
    (row(NOUGHT, row(size(99))), "row(0, row(99, whole))"), (pair(WHOLE, place(N)), "pair(whole, place(n))"),
    (pair(row(M, pair(WHOLE, WHOLE)), pair(place(N), WHOLE)), "pair(row(m, pair(whole, whole)), pair(place(n), whole))"),
    (row(size(row=1), place(size(place=1))), "row(row, place(place))"), (place(size(pair=1, whole=1)), "place(pair+whole)"),
    (LONG_KIND, "pair(pair(pair(whole, whole), whole), pair(whole, row(n, pair(whole, whole))))"),
]
# Of eleven rows within one another, and so of size 12.
DEEP_KIND, DEEP_TEXT = WHOLE, "whole"
for level in range(11):
    DEEP_KIND, DEEP_TEXT = row(size(1), DEEP_KIND), f"row(1, {DEEP_TEXT})"
KINDS.append((DEEP_KIND, DEEP_TEXT))

X = name("x")
EXPRESSIONS = [
    (number(7), "7"), (ZERO, "0"), (number(10 ** 12 - 1), "999999999999"), (X, "x"), (name("abcdefgh"), "abcdefgh"),
    (("length", size(3, n=2)), "length(2*n+3)"), (("length", NOUGHT), "length(0)"),
    (("reckon", "plus", A, B), "plus(1, 2)"), (("reckon", "minus", A, B), "minus(1, 2)"),
    (("reckon", "times", A, X), "times(1, x)"), (("reckon", "less", A, B), "less(1, 2)"),
    (("reckon", "same", A, B), "same(1, 2)"), (("if", A, B, C), "if(1, 2, 3)"), (("let", "x", A, X), "let(x, 1, x)"),
    (("call", "f", ()), "f()"), (("call", "f", (A,)), "f(1)"), (("call", "f", (A, X, C, ZERO)), "f(1, x, 3, 0)"),
    (("pair", A, B), "pair(1, 2)"), (("first", X), "first(x)"), (("second", X), "second(x)"), (("row", (A,)), "row(1)"),
    (("row", (A, B)), "row(1, 2)"), (("row", (A, B, C, ZERO)), "row(1, 2, 3, 0)"), (("none", WHOLE), "none(whole)"),
    (("none", row(N, place(M))), "none(row(n, place(m)))"), (("join", X, X), "join(x, x)"), (("take", N, X), "take(n, x)"),
    (("drop", size(1, n=1), X), "drop(n+1, x)"), (("zip", X, X), "zip(x, x)"), (("turn", X), "turn(x)"),
    (("get", X, name("i")), "get(x, i)"), (("place", NOUGHT, N), "place(0, n)"), (("value", X), "value(x)"),
    (("up", size(2), X), "up(2, x)"), (("wide", size(n=2), X), "wide(2*n, x)"), (("mirror", X), "mirror(x)"),
    (("fork", M, X, "y", A, B), "fork(m, x, y, 1, 2)"), (("when", A, M, "y", B, C), "when(1, m, y, 2, 3)"),
    (("loop", "i", N, name("i")), "loop(i, n, i)"), (("fold", "i", N, "s", A, name("s")), "fold(i, n, s, 1, s)"),
    (("fold", "i", N, "s", ZERO, ("reckon", "plus", name("s"), ("get", name("a"), name("i")))),
     "fold(i, n, s, 0, plus(s, get(a, i)))"),
    (("name", "row"), "row"), (("name", "plus"), "plus"), (("name", "whole"), "whole"), (("name", "ask"), "ask"),
    (("let", "let", ("name", "if"), ("call", "whole", (("name", "let"),))), "let(let, if, whole(let))"),
    (("loop", "loop", size(loop=1), ("name", "loop")), "loop(loop, loop, loop)"),
    (("call", "def", (("call", "ask", ()), ("call", "plac", ()))), "def(ask(), plac())"),
    (("first", ("pair", ("row", (("call", "f", ()), X)), ("none", pair(WHOLE, WHOLE)))),
     "first(pair(row(f(), x), none(pair(whole, whole))))"),
]
DEEP, DEEP_EXPRESSION = ("none", DEEP_KIND), f"none({DEEP_TEXT})"
for level in range(7):
    DEEP, DEEP_EXPRESSION = ("first", DEEP), f"first({DEEP_EXPRESSION})"
EXPRESSIONS.append((DEEP, DEEP_EXPRESSION))

ROWS = [
    (("ask", number(7)), "ask 7"), (("ask", ("call", "f", ())), "ask f()"), (("ask", name("ask")), "ask ask"),
    (("def", "f", (), (), number(7)), "def f () = 7"),
    (("def", "f", ("n",), (("a", row(N)),), name("a")), "def f n (a: row(n, whole)) = a"),
    (("def", "f", ("m", "n"), (("a", row(M)), ("b", row(N))), ("join", name("a"), name("b"))),
     "def f m n (a: row(m, whole), b: row(n, whole)) = join(a, b)"),
    (("def", "abcdefgh", ("d", "c", "b", "a"), (("x", WHOLE), ("y", place(N)), ("x", pair(WHOLE, WHOLE)), ("z", LONG_KIND)), A),
     f"def abcdefgh d c b a (x: whole, y: place(n), x: pair(whole, whole), z: {KINDS[9][1]}) = 1"),
    (("def", "def", ("def",), (("def", WHOLE),), name("def")), "def def def (def: whole) = def"),
    (("def", "ask", (), (("whole", WHOLE),), ("call", "ask", (name("whole"),))), "def ask (whole: whole) = ask(whole)"),
    (("def", "f", (), (("a", DEEP_KIND),), DEEP), f"def f (a: {DEEP_TEXT}) = {DEEP_EXPRESSION}"),
]

VALUES = [
    (WHOLE, 0, "0"), (WHOLE, 10 ** 12 - 1, "999999999999"), (place(N), 2, "2"), (row(size(3)), (1, 20, 3), "[1, 20, 3]"),
    (row(size(1)), (5,), "[5]"), (row(NOUGHT), (), "[]"), (row(NOUGHT, row(size(3))), (), "[]"),
    (row(size(2), row(NOUGHT)), ((), ()), "[[], []]"), (row(size(2), row(size(2))), ((1, 2), (3, 4)), "[[1, 2], [3, 4]]"),
    (pair(WHOLE, WHOLE), (8, 9), "(8, 9)"), (row(size(2), pair(WHOLE, place(N))), ((8, 1), (9, 2)), "[(8, 1), (9, 2)]"),
    (pair(row(size(2)), pair(row(NOUGHT), WHOLE)), ((1, 2), ((), 3)), "([1, 2], ([], 3))"),
    (row(size(2)), (1, 2), "[1, 2]"), (pair(row(size(1), pair(WHOLE, WHOLE)), WHOLE), (((1, 2),), 3), "([(1, 2)], 3)"),
    (row(N), (4, 5), "[4, 5]"),
]
