"""Expressions of every word, with the values that they come to and the steps that are gone on the way.

Each stands in a def f of the names m and n, which the params u and v bind; what is told is done with m = 2, n = 3."""

from small import A, B, C, M, N, NOUGHT, WHOLE, ZERO, name, number, pair, place, row, size

MOST = 10 ** 12 - 1
NUMBERS = {"m": 2, "n": 3}
U, V = name("u"), name("v")
I, S, X = name("i"), name("s"), name("x")
DIGITS = ("reckon", "plus", ("reckon", "times", S, number(10)), ("value", I))


def reckon(word, one, other):
    return ("reckon", word, number(one), number(other))


def numbers(*ns):
    return ("row", tuple([number(n) for n in ns]))


def at(k, far=N):
    """The place k below the length."""
    return ("place", size(k), far)


class Case:

    def __init__(self, e, value, steps=0, defs=(), **params):
        """params: for each name a tuple (kind, value)."""
        self.e, self.value, self.steps, self.defs = e, value, steps, list(defs)
        self.numbers = dict(NUMBERS)
        kinds = (("u", row(M)), ("v", row(N))) + tuple([(x, kind) for x, (kind, given) in params.items()])
        self.row = ("def", "f", ("m", "n"), kinds, e)
        self.args = [(5, 6), (7, 8, 9)] + [given for kind, given in params.values()]

    def program(self):
        return self.defs + [self.row]


# Tells both names' numbers by its figures.
BOTH = size(m=10, n=1)
TABLE = ((1, 2, 3), (4, 5, 6))
SWAP = ("def", "swap", ("m", "n"), (("a", row(M)), ("b", row(N))),
        ("pair", ("length", BOTH), name("b")))
TWICE = ("def", "twice", ("m", "n"), (("a", row(M)), ("b", row(N))),
         ("pair", ("call", "swap", (name("a"), name("b"))),
          ("pair", ("call", "swap", (name("b"), name("a"))), ("length", BOTH))))
LONG = ("def", "long", ("k",), (("a", row(size(1, k=1))),), ("length", size(k=1)))
REST = ("def", "rest", ("n", "k"), (("a", row(N)), ("b", row(size(2, n=1, k=1)))),
        ("pair", ("length", N), ("length", size(k=1))))
SEVEN = ("def", "seven", (), (), number(7))
ADD = ("def", "add", (), (("x", WHOLE), ("y", WHOLE)), ("reckon", "minus", name("x"), name("y")))


def table(values, far, wide):
    return {"t": (row(far, row(wide)), values)}


NUMBER_CASES = [
    Case(number(0), 0), Case(number(7), 7), Case(number(MOST), MOST),
    Case(U, (5, 6)), Case(("length", N), 3), Case(("length", size(4, m=2, n=1)), 11), Case(("length", NOUGHT), 0),
    Case(reckon("plus", 2, 3), 5), Case(reckon("plus", MOST, 1), 0), Case(reckon("plus", MOST, 0), MOST),
    Case(reckon("plus", MOST, MOST), MOST - 1), Case(reckon("minus", 5, 3), 2), Case(reckon("minus", 5, 5), 0),
    Case(reckon("minus", 3, 5), MOST - 1), Case(reckon("minus", 0, MOST), 1), Case(reckon("times", 3, 4), 12),
    Case(reckon("times", 10 ** 6, 10 ** 6), 0), Case(reckon("times", MOST, MOST), 1), Case(reckon("times", 0, MOST), 0),
    Case(reckon("times", 10 ** 6, 10 ** 6 - 1), 10 ** 12 - 10 ** 6),
    Case(reckon("less", 2, 3), 1), Case(reckon("less", 3, 3), 0), Case(reckon("less", 4, 3), 0),
    Case(reckon("same", 2, 3), 0), Case(reckon("same", 3, 3), 1), Case(reckon("same", 4, 3), 0),
    Case(("if", number(0), A, B), 2), Case(("if", number(1), A, B), 1), Case(("if", number(MOST), A, B), 1),
    Case(("let", "x", B, ("reckon", "plus", X, X)), 4),
    Case(("let", "x", A, ("pair", ("let", "x", B, X), X)), (2, 1)),
    Case(("let", "u", ("length", M), ("pair", name("u"), V)), (2, (7, 8, 9))),
]

ROW_CASES = [
    Case(("pair", U, A), ((5, 6), 1)), Case(("first", ("pair", U, A)), (5, 6)), Case(("second", ("pair", U, A)), 1),
    Case(("row", (A,)), (1,)), Case(numbers(4, 3, 2, 1), (4, 3, 2, 1)), Case(("row", (V, V)), ((7, 8, 9), (7, 8, 9))),
    Case(("none", row(N)), ()), Case(("row", (("none", WHOLE), ("none", WHOLE))), ((), ())),
    Case(("join", U, V), (5, 6, 7, 8, 9)), Case(("join", V, U), (7, 8, 9, 5, 6)),
    Case(("join", ("none", WHOLE), U), (5, 6)), Case(("join", U, ("none", WHOLE)), (5, 6)),
    Case(("join", ("row", (("pair", A, U),)), ("row", (("pair", B, U),))), ((1, (5, 6)), (2, (5, 6)))),
    Case(("take", NOUGHT, V), ()), Case(("take", N, V), (7, 8, 9)), Case(("take", M, ("join", V, U)), (7, 8)),
    Case(("take", size(2), numbers(4, 3, 2, 1)), (4, 3)),
    Case(("take", size(1), ("row", (U, ("join", U, ("none", WHOLE))))), ((5, 6),)),
    Case(("drop", NOUGHT, V), (7, 8, 9)), Case(("drop", N, V), ()), Case(("drop", M, ("join", V, U)), (9, 5, 6)),
    Case(("drop", size(3), numbers(4, 3, 2, 1)), (1,)), Case(("drop", size(1), ("row", (U, ("take", M, U)))), ((5, 6),)),
    Case(("zip", V, ("loop", "i", N, I)), ((7, 0), (8, 1), (9, 2)), 3),
    Case(("zip", ("row", (U, U)), numbers(3, 4)), (((5, 6), 3), ((5, 6), 4))),
    Case(("zip", numbers(3, 4), ("row", (U, U))), ((3, (5, 6)), (4, (5, 6)))),
    Case(("zip", ("none", WHOLE), ("none", row(N))), ()),
    Case(("turn", name("t")), ((1, 4), (2, 5), (3, 6)), **table(TABLE, M, N)),
    Case(("turn", name("t")), ((), (), ()), **table((), NOUGHT, N)),
    Case(("turn", name("t")), (), **table(((), ()), M, NOUGHT)), Case(("turn", name("t")), (), **table((), NOUGHT, NOUGHT)),
    Case(("turn", ("row", (V,))), ((7,), (8,), (9,))),
    Case(("turn", ("row", (("row", (U, ("take", M, U))),))), (((5, 6),), ((5, 6),))),
    Case(("turn", ("row", (("row", (("pair", A, B), ("pair", C, A))), ("row", (("pair", B, B), ("pair", C, C)))))),
         (((1, 2), (2, 2)), ((3, 1), (3, 3)))),
    Case(("get", numbers(4, 3, 2), at(0, size(3))), 4), Case(("get", numbers(4, 3, 2), at(2, size(3))), 2),
    Case(("get", numbers(4, 3, 2), at(1, size(2))), 3), Case(("get", ("row", (U, ("take", M, U))), at(1, size(2))), (5, 6)),
    Case(("get", name("t"), at(1, size(2))), (4, 5, 6), **table(TABLE, size(2), N)),
]

PLACE_CASES = [
    Case(("place", NOUGHT, size(1)), 0), Case(("place", M, size(1, m=1)), 2), Case(("place", size(3, n=1), size(9, n=2)), 6),
    Case(("value", name("p")), 2, p=(place(N), 2)), Case(("up", M, name("p")), 4, p=(place(N), 2)),
    Case(("up", NOUGHT, name("p")), 2, p=(place(N), 2)), Case(("up", size(1, m=2), name("p")), 5, p=(place(N), 0)),
    Case(("wide", size(4, n=1), name("p")), 2, p=(place(N), 2)), Case(("mirror", name("p")), 0, p=(place(N), 2)),
    Case(("mirror", name("p")), 2, p=(place(N), 0)), Case(("mirror", name("p")), 5, p=(place(size(1, m=1, n=1)), 0)),
    Case(("mirror", ("mirror", name("p"))), 1, p=(place(N), 1)),
] + [
    Case(("fork", M, name("p"), "x", ("pair", number(10), ("value", X)), ("pair", number(20), ("value", X))), value,
         p=(place(size(m=1, n=1)), p)) for p, value in [(0, (10, 0)), (1, (10, 1)), (2, (20, 0)), (4, (20, 2))]
] + [
    Case(("fork", NOUGHT, name("p"), "x", ZERO, ("value", X)), 1, p=(place(N), 1)),
    Case(("fork", N, name("p"), "x", ("value", X), ZERO), 1, p=(place(N), 1)),
    Case(("let", "x", A, ("fork", M, name("p"), "x", ("value", X), ("reckon", "plus", ("value", X), number(50)))), 51,
         p=(place(size(m=1, n=1)), 3)),
] + [
    Case(("let", "x", number(77), ("when", number(e), M, "x", ("value", X), X)), value)
    for e, value in [(0, 0), (1, 1), (2, 77), (3, 77), (MOST, 77)]
] + [Case(("when", ZERO, NOUGHT, "x", A, B), 2)]

ROUND_CASES = [
    Case(("loop", "i", NOUGHT, A), ()), Case(("loop", "i", size(1), I), (0,), 1),
    Case(("loop", "i", size(1, m=1, n=1), I), (0, 1, 2, 3, 4, 5), 6),
    Case(("loop", "i", N, ("pair", I, ("get", V, ("mirror", I)))), ((0, 9), (1, 8), (2, 7)), 3),
    Case(("loop", "i", M, ("loop", "j", N, ("pair", I, name("j")))),
         (((0, 0), (0, 1), (0, 2)), ((1, 0), (1, 1), (1, 2))), 8),
    Case(("loop", "i", M, ("loop", "i", N, I)), ((0, 1, 2), (0, 1, 2)), 8),
    Case(("loop", "i", M, ("pair", ("loop", "i", N, I), I)), (((0, 1, 2), 0), ((0, 1, 2), 1)), 8),
    Case(("loop", "i", N, ("none", WHOLE)), ((), (), ()), 3),
    Case(("fold", "i", NOUGHT, "s", number(4), DIGITS), 4), Case(("fold", "i", size(1), "s", number(4), DIGITS), 40, 1),
    Case(("fold", "i", size(1, n=1), "s", number(4), DIGITS), 40123, 4),
    Case(("fold", "i", N, "s", ZERO, ("reckon", "plus", S, ("get", V, I))), 24, 3),
    Case(("fold", "i", N, "s", ("loop", "j", M, A), ("loop", "j", M, ("reckon", "plus", ("get", S, name("j")), ("value", I)))),
         (4, 4), 11),
    Case(("fold", "i", N, "s", ZERO, ("fold", "i", M, "s", S, DIGITS)), 10101, 9),
    Case(("let", "i", number(9), ("let", "s", number(8), ("fold", "i", size(1), "s", ("reckon", "plus", name("i"), S),
                                                       ("reckon", "plus", S, ("value", I))))), 17, 1),
    Case(("let", "s", V, ("pair", ("fold", "i", N, "s", ZERO, ("value", I)), S)), (2, (7, 8, 9)), 3),
]

CALL_CASES = [
    Case(("call", "seven", ()), 7, 1, [SEVEN]),
    Case(("call", "add", (number(9), number(4))), 5, 1, [ADD]),
    Case(("call", "add", (("call", "add", (number(9), number(4))), ("call", "add", (A, A)))), 5, 3, [ADD]),
    Case(("call", "swap", (U, V)), (23, (7, 8, 9)), 1, [SWAP]), Case(("call", "swap", (V, U)), (32, (5, 6)), 1, [SWAP]),
    Case(("pair", ("call", "swap", (V, U)), ("length", BOTH)), ((32, (5, 6)), 23), 1, [SWAP]),
    Case(("call", "twice", (V, U)), ((32, (5, 6)), ((23, (7, 8, 9)), 32)), 3, [SWAP, TWICE]),
    Case(("call", "long", (numbers(1, 2, 3),)), 2, 1, [LONG]), Case(("call", "long", (numbers(1),)), 0, 1, [LONG]),
    Case(("call", "long", (("join", V, numbers(1, 2)),)), 4, 1, [LONG]),
    Case(("call", "rest", (V, ("loop", "i", size(6, n=1), A))), (3, 4), 10, [REST]),
    Case(("call", "rest", (U, ("loop", "i", size(2, m=3, n=1), A))), (2, 7), 12, [REST]),
    Case(("loop", "i", N, ("call", "add", (("value", I), A))), (MOST, 0, 1), 6, [ADD]),
    Case(("fold", "i", N, "s", number(9), ("call", "add", (S, ("value", I)))), 6, 6, [ADD]),
    Case(("call", "add", (("fold", "i", N, "s", ZERO, ("value", I)), ("call", "seven", ()))), MOST + 1 - 5, 5, [ADD, SEVEN]),
]

# A side that is not gone to: it would be refused, or go steps.
DEAR = ("loop", "i", size(n=90), ("call", "long", (("loop", "j", size(1, n=40), A),)))
SIDE_CASES = [
    Case(("if", A, B, ("fold", "i", N, "s", ZERO, S)), 2), Case(("if", ZERO, ("fold", "i", N, "s", ZERO, S), B), 2),
    Case(("if", A, ("none", WHOLE), ("take", NOUGHT, DEAR)), (), 0, [LONG]),
    Case(("if", ZERO, ("take", NOUGHT, DEAR), ("none", WHOLE)), (), 0, [LONG]),
    Case(("fork", size(2), at(1, size(3)), "x", ("none", WHOLE), ("take", NOUGHT, DEAR)), (), 0, [LONG]),
    Case(("fork", size(1), at(1, size(3)), "x", ("take", NOUGHT, DEAR), ("none", WHOLE)), (), 0, [LONG]),
    Case(("when", A, M, "x", ("none", WHOLE), ("take", NOUGHT, DEAR)), (), 0, [LONG]),
    Case(("when", B, M, "x", ("take", NOUGHT, DEAR), ("none", WHOLE)), (), 0, [LONG]),
]

CASES = NUMBER_CASES + ROW_CASES + PLACE_CASES + ROUND_CASES + CALL_CASES + SIDE_CASES
