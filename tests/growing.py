"""Expressions grown at random (from a told seed), each of a kind that is known ahead, with the kinds of its nodes."""

import functools
import random

from indexwise.errors import TooGreat
from indexwise.found import Found
from indexwise.kinds import kind_put, points_of
from indexwise.lengths import added, less
from small import M, N, NOUGHT, WHOLE, pair, place, row, size

JOIN = ("def", "g", ("n", "m"), (("a", row(N)), ("b", row(size(1, m=1, n=1)))), ("join", ("name", "b"), ("name", "a")))
TABLE = ("def", "h", ("n",), (("a", row(N)), ("b", row(N))),
         ("loop", "i", N, ("pair", ("get", ("name", "a"), ("name", "i")), ("mirror", ("name", "i")))))
# As the growers want them: the params' kinds and the result by the lengths of the names.
DEFS = (
    ("g", ("n", "m"), [lambda places: kind_put(row(N), places), lambda places: kind_put(row(size(1, m=1, n=1)), places)],
     lambda places: kind_put(row(size(1, m=1, n=2)), places)),
    ("h", ("n",), [lambda places: kind_put(row(N), places)] * 2,
     lambda places: kind_put(row(N, pair(("whole",), place(N))), places)),
)


def shape(kind):
    return [point[0] for point in points_of(kind)]


class Dead(Exception):
    """Nothing of the wanted kind can be grown here."""


class Grower:

    def __init__(self, seed, names, defs=()):
        self.random = random.Random(seed)
        self.names = names
        # Tuples (f, names, the params' kinds, a function from lengths to the result).
        self.defs = list(defs)
        self.fresh = 0

    def length(self, least=0):
        times = {name: self.random.choice([0, 0, 1]) for name in self.names}
        return size(self.random.randint(least, 2), **{name: n for name, n in times.items() if n > 0})

    def below(self, length):
        """A length that is at most this one."""
        parts = [(name, self.random.randint(0, times)) for name, times in length[1]]
        return size(self.random.randint(0, length[0]), **{name: times for name, times in parts if times > 0})

    def kind(self, depth):
        if depth > 0 and self.defs and self.random.random() < 0.3:
            told = self.random.choice(self.defs)
            return told[3]({name: self.length() for name in told[1]})
        word = self.random.choice(["whole", "place", "row", "pair"] if depth > 0 else ["whole", "place"])
        if word == "row":
            return row(self.length(), self.kind(depth - 1))
        if word == "pair":
            return pair(self.kind(depth - 1), self.kind(depth - 1))
        return WHOLE if word == "whole" else place(self.length(1))

    def name(self):
        self.fresh += 1
        return self.random.choice(["u", "v", "x", "x", "y", "new" + "abcdefghij"[self.fresh % 10]])

    def grown(self, kind, depth, scope):
        """A tuple (expression, the kinds of its nodes)."""
        ways = list(self.short_ways(kind, scope))
        if depth > 0:
            ways.extend(self.ways_of_any(kind) + self.ways_of_word(kind))
            ways.extend(self.ways_of_call(kind))
        self.random.shuffle(ways)
        for way in ways[:4]:
            kinds = [kind]

            def grow(wanted, more=None):
                expression, inner = self.grown(wanted, depth - 1, {**scope, **(more or {})})
                kinds.extend(inner)
                return expression
            try:
                return (way(grow), kinds)
            except Dead:
                continue
        raise Dead

    def short_ways(self, kind, scope):
        for x, known in scope.items():
            if known == kind:
                yield lambda grow, x=x: ("name", x)
        if kind == WHOLE:
            yield lambda grow: ("number", self.random.randint(0, 9))
            yield lambda grow: ("length", self.length())
        if kind[0] == "place" and kind[1][0] > 0:
            yield lambda grow: ("place", self.below(less(kind[1], size(1))), kind[1])
        if kind[0] == "row" and kind[1] == NOUGHT:
            yield lambda grow: ("none", kind[2])

    def ways_of_any(self, kind):
        def let(grow):
            x, inner = self.name(), self.kind(2)
            return ("let", x, grow(inner), grow(kind, {x: inner}))

        def get(grow):
            far = self.length(1)
            return ("get", grow(row(far, kind)), grow(place(self.below(far))))

        def fork(grow):
            near, far, x = self.length(), self.length(), self.name()
            return ("fork", near, grow(place(added(near, far))), x, grow(kind, {x: place(near)}),
                    grow(kind, {x: place(far)}))

        def when(grow):
            near, x = self.length(), self.name()
            return ("when", grow(WHOLE), near, x, grow(kind, {x: place(near)}), grow(kind))

        def fold(grow):
            far, x = self.length(), self.name()
            return ("fold", x, far, "s", grow(kind), grow(kind, {x: place(far), "s": kind}))
        return [let, get, fork, when, fold, lambda grow: ("if", grow(WHOLE), grow(kind), grow(kind)),
                lambda grow: ("first", grow(pair(kind, self.kind(1)))),
                lambda grow: ("second", grow(pair(self.kind(1), kind)))]

    def ways_of_word(self, kind):
        if kind == WHOLE:
            return [lambda grow: ("reckon", self.random.choice(["plus", "minus", "times", "less", "same"]), grow(WHOLE),
                                  grow(WHOLE)), lambda grow: ("value", grow(place(self.length(1))))]
        if kind[0] == "pair":
            return [lambda grow: ("pair", grow(kind[1]), grow(kind[2]))] * 3
        if kind[0] == "place":
            return self.ways_of_place(kind[1])
        return self.ways_of_row(kind[1], kind[2])

    def ways_of_place(self, length):
        def up(grow):
            step = self.below(length)
            return ("up", step, grow(place(less(length, step))))
        return [up, lambda grow: ("wide", length, grow(place(self.below(length)))),
                lambda grow: ("mirror", grow(place(length)))]

    def ways_of_row(self, length, thing):
        def loop(grow):
            x = self.name()
            return ("loop", x, length, grow(thing, {x: place(length)}))

        def join(grow):
            first = self.below(length)
            return ("join", grow(row(first, thing)), grow(row(less(length, first), thing)))

        def take(grow):
            return ("take", length, grow(row(added(length, self.length()), thing)))

        def drop(grow):
            behind = self.length()
            return ("drop", behind, grow(row(added(length, behind), thing)))
        ways = [loop, loop, join, take, drop]
        if length in [size(1), size(2), size(3), size(4)]:
            ways.append(lambda grow: ("row", tuple([grow(thing) for each in range(length[0])])))
        if thing[0] == "pair":
            ways.extend([lambda grow: ("zip", grow(row(length, thing[1])), grow(row(length, thing[2])))] * 3)
        if thing[0] == "row":
            ways.extend([lambda grow: ("turn", grow(row(thing[1], row(length, thing[2]))))] * 3)
        return ways

    def ways_of_call(self, kind):
        def called(told, places):
            return lambda grow: ("call", told[0], tuple([grow(param(places)) for param in told[2]]))
        ways = []
        for told in self.defs:
            # Whatever lengths are put in, words stay: most of the defs need no try.
            if shape(told[3]({})) != shape(kind):
                continue
            for attempt in range(8):
                places = {name: self.length() for name in told[1]}
                # Several times, for a call that fits is rare.
                ways.extend([called(told, places)] * (4 if told[3](places) == kind else 0))
        return ways


def grown(seed, names, kind_depth, depth, scope, defs=()):
    """A tuple (kind, expression, kinds), low and small enough; the next seed where this one brings none."""
    for attempt in range(1000):
        grower = Grower(f"{seed} {attempt}", names, defs)
        kind = grower.kind(kind_depth)
        try:
            expression, kinds = grower.grown(kind, depth, scope)
        except Dead:
            continue
        if 4 <= len(kinds) <= 30:
            return (kind, expression, kinds)
    raise Dead


def putting(kind):
    return lambda places: kind_put(kind, places)


def grown_def(seed, f, rows, defs, depth):
    """The rows and the defs with one more def, whose names are m and n; as they were where it would be too great."""
    grower = Grower(f"params {seed}", ["m", "n"])
    scope = {"u": row(M), "v": row(N), "a": grower.kind(2), "b": grower.kind(1)}
    kind, expression, kinds = grown(seed, ["m", "n"], depth - 1, depth, scope, defs)
    try:
        longer = rows + [("def", f, ("m", "n"), tuple(scope.items()), expression)]
        Found(longer)
    except TooGreat:
        return rows, defs
    return longer, defs + [(f, ("m", "n"), [putting(each) for each in scope.values()], putting(kind))]


@functools.lru_cache(maxsize=None)
def grown_program(seed):
    """Two defs that are always the same, some that may call the ones ahead of them, and some asks."""
    rows, defs = [JOIN, TABLE], list(DEFS)
    for f, depth in [("p", 3), ("q", 3), ("r", 4), ("s", 5)]:
        rows, defs = grown_def(f"{seed} {f}", f, rows, defs, depth)
    for k in range(3):
        asked = grown(f"{seed} ask {k}", [], 2, 4, {}, defs)[1]
        try:
            Found(rows + [("ask", asked)])
            rows = rows + [("ask", asked)]
        except TooGreat:
            continue
    return rows
