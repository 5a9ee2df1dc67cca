"""Bare code made of a program: weights stand in the place of kinds, and everything lies flat."""

from indexwise.coding import program_coded, shared_code
from indexwise.lengths import less
from indexwise.sums import of_length, product, weight

NOTHING = ()


def make_size(point, codes):
    return ("size", of_length(point.node[1]))


def make_same(point, codes):
    return codes[0]


def make_up(point, codes):
    return ("reckon", "plus", codes[0], make_size(point, codes))


def make_lay(point, codes):
    return ("lay", tuple(codes))


def make_first(point, codes):
    return ("part", NOTHING, weight(point.kinds[0][1]), codes[0])


def make_second(point, codes):
    pair = point.kinds[0]
    return ("part", weight(pair[1]), weight(pair[2]), codes[0])


def make_take(point, codes):
    return ("part", NOTHING, weight(point.kind), codes[0])


def make_drop(point, codes):
    row = point.kinds[0]
    ahead = ("row", point.node[1], row[2])
    return ("part", weight(ahead), weight(("row", less(row[1], point.node[1]), row[2])), codes[0])


def make_weave(point, codes):
    one = point.kinds[0]
    other = point.kinds[1]
    return ("weave", of_length(one[1]), weight(one[2]), weight(other[2]), codes[0], codes[1])


def make_turn(point, codes):
    table = point.kinds[0]
    row = table[2]
    return ("turn", of_length(table[1]), of_length(row[1]), weight(row[2]), codes[0])


def make_pick(point, codes):
    return ("pick", weight(point.kind), codes[0], codes[1])


MAKERS = {
    "length": make_size,
    "place": make_size,
    "value": make_same,
    "wide": make_same,
    "up": make_up,
    "pair": make_lay,
    "join": make_lay,
    "row": make_lay,
    "none": make_lay,
    "first": make_first,
    "second": make_second,
    "take": make_take,
    "drop": make_drop,
    "zip": make_weave,
    "turn": make_turn,
    "get": make_pick,
}


def bare_code(point, codes):
    word = point.node[0]
    if word not in MAKERS:
        return shared_code(point, codes)
    maker = MAKERS[word]
    return maker(point, codes)


def made(found):
    return program_coded(found, bare_code)
