"""Things of all sorts, for the functions that are asked of anything."""


class Prickly:
    """A thing that lets itself be neither compared nor hashed nor counted."""

    __hash__ = None

    def refuse(self, *others):
        raise RuntimeError("asked too much of a stranger")

    __eq__ = __ne__ = __lt__ = __le__ = __gt__ = __ge__ = refuse
    __len__ = __iter__ = __getitem__ = __bool__ = __contains__ = refuse


def nested(innermost, wrap, depth=100):
    thing = innermost
    for level in range(depth):
        thing = wrap(thing)
    return thing


def strangers():
    return [
        None, True, False, 0, 1, -1, 10 ** 60, 1.0, 0.5, float("nan"), 2j, "", "whole!", "\ud800", b"n", (), [], {},
        set(), frozenset(), range(2), object(), Prickly(), int, len, iter(()), (Prickly(),), (Prickly(), Prickly()),
        (Prickly(), Prickly(), Prickly()), [Prickly()], {"n": Prickly()},
        nested((), lambda thing: (thing,)), nested((), lambda thing: (0, thing)), nested([], lambda thing: [thing]),
        nested(0, lambda thing: (thing, thing), 20), nested({}, lambda thing: {"n": thing}),
    ]
