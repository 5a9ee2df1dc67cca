"""The kind of each node of one row, found from its parts, and what is refused on the way."""

from indexwise.binding import bound
from indexwise.errors import NoName, Parts, TooGreat, Unlike
from indexwise.kinds import held, is_kind, kind_put, names_in
from indexwise.lengths import added, exceeding, less, names_of, of_number, parting
from indexwise.rows import SHAPES

WHOLE = ("whole",)


def find_whole(spot, node):
    return WHOLE


def find_name(spot, node):
    if node[1] not in spot.scope:
        raise NoName(spot.place)
    return spot.scope[node[1]]


def find_reckon(spot, node):
    spot.wanted(node[2], "whole")
    spot.wanted(node[3], "whole")
    return WHOLE


def find_if(spot, node):
    spot.wanted(node[1], "whole")
    yes = spot.part(node[2])
    no = spot.part(node[3])
    spot.alike(yes, no)
    return yes


def find_let(spot, node):
    kind = spot.part(node[2])
    return spot.part_with(node[3], {node[1]: kind})


def find_call(spot, node):
    if node[1] not in spot.walk.defs:
        raise NoName(spot.place)
    told = spot.walk.defs[node[1]]
    if len(told[1]) != len(node[2]):
        raise Unlike(spot.place)
    given = [spot.part(arg) for arg in node[2]]
    answer = bound(told[0], list(told[1]), given)
    if answer[0] != "bound":
        spot.refuse(answer)
    spot.walk.bind(spot.place[1], answer[1])
    return kind_put(told[2], dict(zip(told[0], answer[1])))


def find_pair(spot, node):
    one = spot.part(node[1])
    other = spot.part(node[2])
    return ("pair", one, other)


def find_first(spot, node):
    return spot.wanted(node[1], "pair")[1]


def find_second(spot, node):
    return spot.wanted(node[1], "pair")[2]


def find_row(spot, node):
    kinds = [spot.part(arg) for arg in node[1]]
    for kind in kinds[1:]:
        spot.alike(kinds[0], kind)
    return ("row", of_number(len(kinds)), kinds[0])


def find_none(spot, node):
    return ("row", of_number(0), node[1])


def find_join(spot, node):
    one = spot.wanted(node[1], "row")
    other = spot.wanted(node[2], "row")
    spot.alike(one[2], other[2])
    return ("row", added(one[1], other[1]), one[2])


def find_take(spot, node):
    row = spot.wanted(node[2], "row")
    spot.at_most(node[1], row[1])
    return ("row", node[1], row[2])


def find_drop(spot, node):
    row = spot.wanted(node[2], "row")
    spot.at_most(node[1], row[1])
    return ("row", less(row[1], node[1]), row[2])


def find_zip(spot, node):
    one = spot.wanted(node[1], "row")
    other = spot.wanted(node[2], "row")
    if one[1] != other[1]:
        spot.refuse(("parts", one[1], other[1]))
    return ("row", one[1], ("pair", one[2], other[2]))


def find_turn(spot, node):
    table = spot.wanted(node[1], "row")
    row = table[2]
    if row[0] != "row":
        raise Unlike(spot.place)
    return ("row", row[1], ("row", table[1], row[2]))


def find_get(spot, node):
    row = spot.wanted(node[1], "row")
    place = spot.wanted(node[2], "place")
    spot.at_most(place[1], row[1])
    return row[2]


def find_place(spot, node):
    spot.at_most(added(node[1], of_number(1)), node[2])
    return ("place", node[2])


def find_value(spot, node):
    spot.wanted(node[1], "place")
    return WHOLE


def find_up(spot, node):
    place = spot.wanted(node[2], "place")
    return ("place", added(place[1], node[1]))


def find_wide(spot, node):
    place = spot.wanted(node[2], "place")
    spot.at_most(place[1], node[1])
    return ("place", node[1])


def find_mirror(spot, node):
    return spot.wanted(node[1], "place")


def find_fork(spot, node):
    place = spot.wanted(node[2], "place")
    spot.at_most(node[1], place[1])
    below = spot.part_with(node[4], {node[3]: ("place", node[1])})
    beyond = spot.part_with(node[5], {node[3]: ("place", less(place[1], node[1]))})
    spot.alike(below, beyond)
    return below


def find_when(spot, node):
    spot.wanted(node[1], "whole")
    below = spot.part_with(node[4], {node[3]: ("place", node[2])})
    beyond = spot.part(node[5])
    spot.alike(below, beyond)
    return below


def find_loop(spot, node):
    return ("row", node[2], spot.part_with(node[3], {node[1]: ("place", node[2])}))


def find_fold(spot, node):
    start = spot.part(node[4])
    step = spot.part_with(node[5], {node[1]: ("place", node[2]), node[3]: start})
    spot.alike(start, step)
    return start


FINDERS = {
    "number": find_whole,
    "name": find_name,
    "length": find_whole,
    "reckon": find_reckon,
    "if": find_if,
    "let": find_let,
    "call": find_call,
    "pair": find_pair,
    "first": find_first,
    "second": find_second,
    "row": find_row,
    "none": find_none,
    "join": find_join,
    "take": find_take,
    "drop": find_drop,
    "zip": find_zip,
    "turn": find_turn,
    "get": find_get,
    "place": find_place,
    "value": find_value,
    "up": find_up,
    "wide": find_wide,
    "mirror": find_mirror,
    "fork": find_fork,
    "when": find_when,
    "loop": find_loop,
    "fold": find_fold,
}


def length_names(node):
    names = []
    for sort, given in zip(SHAPES[node[0]], node[1:]):
        if sort == "length":
            names.extend(names_of(given))
        if sort == "kind":
            names.extend(names_in(given))
    return names


# One row gone through.
class Walk:

    def __init__(self, row, names, defs):
        self.row = row
        self.names = names
        self.defs = defs
        # By the nodes' numbers, and these begin with 1.
        self.kinds = [None]
        self.binds = {}

    def bind(self, number, lengths):
        self.binds[number] = lengths

    def kind_of(self, node, scope):
        # Parts come from the left, each behind its node: just so nodes are numbered.
        number = len(self.kinds)
        self.kinds.append(None)
        spot = Spot(self, (self.row, number), scope)
        for name in length_names(node):
            if name not in self.names:
                raise NoName(spot.place)
        finder = FINDERS[node[0]]
        kind = finder(spot, node)
        if not is_kind(kind):
            raise TooGreat(spot.place)
        self.kinds[number] = kind
        return kind


# One node on a walk, with the kinds for which names stand there.
class Spot:

    def __init__(self, walk, place, scope):
        self.walk = walk
        self.place = place
        self.scope = scope

    def part(self, node):
        return self.walk.kind_of(node, self.scope)

    def part_with(self, node, more):
        scope = dict(self.scope)
        scope.update(more)
        return self.walk.kind_of(node, scope)

    def wanted(self, node, word):
        kind = self.part(node)
        if kind[0] != word:
            raise Unlike(self.place)
        return kind

    def alike(self, one, other):
        fault = held(one, other)
        if fault is not None:
            self.refuse(fault)

    def at_most(self, one, other):
        if exceeding(one, other) is not None:
            self.refuse(("exceeds", one, other))

    def refuse(self, fault):
        if fault[0] == "unlike":
            raise Unlike(self.place)
        one = fault[1]
        other = fault[2]
        if fault[0] == "exceeds":
            raise Parts(self.place, one, other, exceeding(one, other))
        raise Parts(self.place, one, other, parting(one, other))
