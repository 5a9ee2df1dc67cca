"""Short ways to write lengths, kinds and expressions, and one expression of each sort."""

WHOLE = ("whole",)
NOUGHT = (0, ())
ZERO = ("number", 0)
WORDS = ("number name length reckon if let call pair first second row none join take drop zip turn get place value up "
         "wide mirror fork when loop fold plus minus times less same").split()


def size(count=0, **times):
    return (count, tuple(sorted(times.items())))


M = size(m=1)
N = size(n=1)
THREE = size(3)


def place(length):
    return ("place", length)


def row(length, thing=WHOLE):
    return ("row", length, thing)


def pair(one, other):
    return ("pair", one, other)


def number(n):
    return ("number", n)


def name(x):
    return ("name", x)


A, B, C = number(1), number(2), number(3)

# One of each word, every part of it a number.
EACH = [
    ("number", 7), ("name", "x"), ("length", size(3, n=2)), ("reckon", "plus", A, B), ("if", A, B, C),
    ("let", "x", A, B), ("call", "f", (A, B, C)), ("pair", A, B), ("first", A), ("second", A), ("row", (A, B, C)),
    ("none", row(N, WHOLE)), ("join", A, B), ("take", N, A), ("drop", N, A), ("zip", A, B), ("turn", A),
    ("get", A, B), ("place", M, N), ("value", A), ("up", N, A), ("wide", N, A), ("mirror", A),
    ("fork", N, A, "x", B, C), ("when", A, N, "x", B, C), ("loop", "x", N, A), ("fold", "x", N, "y", A, B),
]
