"""What a call binds: the kinds of a def's params held against those of the args."""

from indexwise.kinds import length_at, points_of
from indexwise.lengths import exceeding, less, put
from indexwise.rows import unbound


def bind_length(length, given, places):
    fresh = unbound(length, places)
    known = (length[0], tuple([part for part in length[1] if part not in fresh]))
    rest = put(known, places)
    if fresh == []:
        return None if rest == given else ("parts", rest, given)
    if exceeding(rest, given) is not None:
        return ("exceeds", rest, given)
    places[fresh[0][0]] = less(given, rest)
    return None


def bind_kind(param, given, places):
    # Up to the first unlike word both have the same shape, so their points stand side by side.
    for here, there in zip(points_of(param), points_of(given)):
        if here[0] != there[0]:
            return ("unlike",)
        if length_at(here) is not None:
            fault = bind_length(length_at(here), length_at(there), places)
            if fault is not None:
                return fault
    return None


def bound(names, params, given):
    places = {}
    for param, arg in zip(params, given):
        fault = bind_kind(param, arg, places)
        if fault is not None:
            return fault
    return ("bound", tuple([places[name] for name in names]))
