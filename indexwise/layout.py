"""Values laid flat, and raised again by their kinds."""

from indexwise.kinds import in_order
from indexwise.lengths import worth


def things_in(value):
    return value if isinstance(value, tuple) else ()


def laid(value):
    return [each for each in in_order(value, things_in) if not isinstance(each, tuple)]


# The worth of the kind's weight, without its products written out.
def count_in(kind, numbers):
    if kind[0] == "row":
        return worth(kind[1], numbers) * count_in(kind[2], numbers)
    if kind[0] == "pair":
        return count_in(kind[1], numbers) + count_in(kind[2], numbers)
    return 1


def raised(kind, numbers, flat):
    if kind[0] == "row":
        each = count_in(kind[2], numbers)
        starts = [each * place for place in range(worth(kind[1], numbers))]
        return tuple([raised(kind[2], numbers, flat[start:start + each]) for start in starts])
    if kind[0] == "pair":
        ahead = count_in(kind[1], numbers)
        return (raised(kind[1], numbers, flat[:ahead]), raised(kind[2], numbers, flat[ahead:]))
    return flat[0]
