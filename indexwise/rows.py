"""Expressions and programs: what is one, and what its rows are refused for before any kind is found."""

from indexwise.errors import NoBind, NoProgram, Twice
from indexwise.kinds import WHOLE_BOUND, has_word, in_order, is_below, is_kind, is_small_length, length_at, points_of
from indexwise.lengths import is_name

MOST_ROWS = 12
MOST_NODES = 40
MOST_ABOVE = 7
# Of args, of a def's names and of its params alike.
MOST_THINGS = 4
RECKONS = ("plus", "minus", "times", "less", "same")
# What stands behind each word of an expression, from the left.
SHAPES = {
    "number": ("number",),
    "name": ("name",),
    "length": ("length",),
    "reckon": ("reckon", "part", "part"),
    "if": ("part", "part", "part"),
    "let": ("name", "part", "part"),
    "call": ("def", "args"),
    "pair": ("part", "part"),
    "first": ("part",),
    "second": ("part",),
    "row": ("things",),
    "none": ("kind",),
    "join": ("part", "part"),
    "take": ("length", "part"),
    "drop": ("length", "part"),
    "zip": ("part", "part"),
    "turn": ("part",),
    "get": ("part", "part"),
    "place": ("length", "length"),
    "value": ("part",),
    "up": ("length", "part"),
    "wide": ("length", "part"),
    "mirror": ("part",),
    "fork": ("length", "part", "name", "part", "part"),
    "when": ("part", "length", "name", "part", "part"),
    "loop": ("name", "length", "part"),
    "fold": ("name", "length", "name", "part", "part"),
}


def is_def_name(thing):
    return is_name(thing) and thing not in SHAPES and thing not in RECKONS


def is_few(thing, least):
    return isinstance(thing, tuple) and least <= len(thing) <= MOST_THINGS


def fits(sort, thing):
    if sort == "number":
        return is_below(thing, WHOLE_BOUND)
    if sort == "name":
        return is_name(thing)
    if sort == "length":
        return is_small_length(thing)
    if sort == "kind":
        return is_kind(thing)
    if sort == "reckon":
        return isinstance(thing, str) and thing in RECKONS
    if sort == "def":
        return is_def_name(thing)
    if sort == "args":
        return is_few(thing, 0)
    if sort == "things":
        return is_few(thing, 1)
    # A part is looked at when it comes itself.
    return True


def is_node(thing):
    if not has_word(thing) or thing[0] not in SHAPES:
        return False
    shape = SHAPES[thing[0]]
    if len(thing) != len(shape) + 1:
        return False
    for sort, given in zip(shape, thing[1:]):
        if not fits(sort, given):
            return False
    return thing[0] != "fold" or thing[1] != thing[3]


def parts_of(node):
    parts = []
    for sort, given in zip(SHAPES[node[0]], node[1:]):
        if sort == "part":
            parts.append(given)
        if sort == "args" or sort == "things":
            parts.extend(given)
    return parts


def is_expression(thing):
    # Counted on the way: a thing that holds the same part over and over may be too great to walk whole.
    count = 0
    waiting = [(thing, 0)]
    while waiting:
        found = waiting.pop()
        node = found[0]
        above = found[1]
        count += 1
        if count > MOST_NODES or above > MOST_ABOVE or not is_node(node):
            return False
        waiting.extend([(part, above + 1) for part in parts_of(node)])
    return True


def nodes_of(expression):
    return in_order(expression, parts_of)


def are_names(thing):
    return is_few(thing, 0) and all([is_name(name) for name in thing])


def is_param(thing):
    return isinstance(thing, tuple) and len(thing) == 2 and is_name(thing[0]) and is_kind(thing[1])


def are_params(thing):
    return is_few(thing, 0) and all([is_param(param) for param in thing])


def is_row(thing):
    if not has_word(thing):
        return False
    if thing[0] == "ask":
        return len(thing) == 2 and is_expression(thing[1])
    if thing[0] != "def" or len(thing) != 5:
        return False
    return is_def_name(thing[1]) and are_names(thing[2]) and are_params(thing[3]) and is_expression(thing[4])


def is_twice(things):
    return len(set(things)) < len(things)


def unbound(length, bound):
    return [part for part in length[1] if part[0] not in bound]


def may_stand(point, fresh, names):
    if fresh == []:
        return True
    return point[0] == "row" and len(fresh) == 1 and fresh[0] in [(name, 1) for name in names]


def are_bound(names, params):
    bound = {}
    for x, kind in params:
        for point in points_of(kind):
            fresh = [] if length_at(point) is None else unbound(length_at(point), bound)
            if not may_stand(point, fresh, names):
                return False
            for name, times in fresh:
                bound[name] = True
    # Nothing but the def's names is bound, and these are unlike.
    return len(bound) == len(names)


def hold_rows(rows):
    for number, row in enumerate(rows):
        if not is_row(row):
            raise NoProgram((number, 0))


def hold_once(rows):
    seen = {}
    for number, row in enumerate(rows):
        if row[0] == "def":
            if row[1] in seen or is_twice(row[2]) or is_twice([x for x, kind in row[3]]):
                raise Twice((number, 0))
            seen[row[1]] = True


def hold_bound(rows):
    for number, row in enumerate(rows):
        if row[0] == "def" and not are_bound(row[2], row[3]):
            raise NoBind((number, 0))


def checked(thing):
    if not isinstance(thing, list) or len(thing) > MOST_ROWS:
        raise NoProgram((0, 0))
    rows = list(thing)
    hold_rows(rows)
    hold_once(rows)
    hold_bound(rows)
    return rows
