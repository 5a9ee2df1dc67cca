"""Kinds of values: wholes, places, rows and pairs, and what is a value of them."""

from indexwise.lengths import is_length, is_whole, names_of, put, worth

GREATEST_SIZE = 12
GREATEST_NUMBER = 99
# 10 ** 12: every whole value lies below it.
WHOLE_BOUND = 1000000000000


def is_small_length(thing):
    if not is_length(thing) or thing[0] > GREATEST_NUMBER:
        return False
    return all([times <= GREATEST_NUMBER for name, times in thing[1]])


def has_word(thing):
    # The word is asked to be a text first: a thing of another sort may not bear "==".
    return isinstance(thing, tuple) and len(thing) > 0 and isinstance(thing[0], str)


def is_point(thing):
    if not has_word(thing):
        return False
    if thing[0] == "whole":
        return len(thing) == 1
    if thing[0] == "place":
        return len(thing) == 2 and is_small_length(thing[1])
    if thing[0] == "row":
        return len(thing) == 3 and is_small_length(thing[1])
    return len(thing) == 3 and thing[0] == "pair"


def things_of(point):
    if point[0] == "row":
        return [point[2]]
    if point[0] == "pair":
        return [point[1], point[2]]
    return []


def length_at(point):
    if point[0] == "place" or point[0] == "row":
        return point[1]
    return None


def is_kind(thing):
    # Counted on the way: a thing that holds the same pair over and over may be too great to walk whole.
    size = 0
    waiting = [thing]
    while waiting:
        point = waiting.pop()
        size += 1
        if size > GREATEST_SIZE or not is_point(point):
            return False
        waiting.extend(things_of(point))
    return True


def in_order(whole, parts_of):
    points = []
    waiting = [whole]
    while waiting:
        point = waiting.pop()
        points.append(point)
        # The last one in is the next one out, so the left goes in last.
        waiting.extend(list(reversed(parts_of(point))))
    return points


def points_of(kind):
    return in_order(kind, things_of)


def size_of(kind):
    return len(points_of(kind))


def kind_put(kind, places):
    if kind[0] == "place":
        return ("place", put(kind[1], places))
    if kind[0] == "row":
        return ("row", put(kind[1], places), kind_put(kind[2], places))
    if kind[0] == "pair":
        return ("pair", kind_put(kind[1], places), kind_put(kind[2], places))
    return kind


def names_in(kind):
    names = []
    for point in points_of(kind):
        if length_at(point) is not None:
            names.extend(names_of(length_at(point)))
    return sorted(set(names))


def is_below(thing, bound):
    return is_whole(thing) and 0 <= thing < bound


def are_values(kind, numbers, things):
    for thing in things:
        if not is_value(kind, numbers, thing):
            return False
    return True


def is_value(kind, numbers, thing):
    if kind[0] == "whole":
        return is_below(thing, WHOLE_BOUND)
    if kind[0] == "place":
        return is_below(thing, worth(kind[1], numbers))
    if not isinstance(thing, tuple):
        return False
    if kind[0] == "row":
        return len(thing) == worth(kind[1], numbers) and are_values(kind[2], numbers, thing)
    if len(thing) != 2:
        return False
    return is_value(kind[1], numbers, thing[0]) and is_value(kind[2], numbers, thing[1])


def held(one, other):
    # Up to the first unlike word both have the same shape, so their points stand side by side.
    for here, there in zip(points_of(one), points_of(other)):
        if here[0] != there[0]:
            return ("unlike",)
        if length_at(here) != length_at(there):
            return ("parts", length_at(here), length_at(there))
    return None
