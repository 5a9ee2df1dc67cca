"""Numbers for names and values of kinds, drawn at random from a told source."""

from indexwise.lengths import worth


class NoneThere(Exception):
    """There is no value of the kind by these numbers."""


def drawn_numbers(source, names, most):
    return {name: source.randint(0, most) for name in names}


def drawn_value(source, kind, numbers):
    if kind[0] == "pair":
        return (drawn_value(source, kind[1], numbers), drawn_value(source, kind[2], numbers))
    if kind[0] == "row":
        return tuple([drawn_value(source, kind[2], numbers) for each in range(worth(kind[1], numbers))])
    if kind[0] == "whole":
        return source.choice([0, 1, source.randint(0, 9), source.randint(0, 10 ** 12 - 1)])
    if worth(kind[1], numbers) == 0:
        raise NoneThere
    return source.randrange(worth(kind[1], numbers))
