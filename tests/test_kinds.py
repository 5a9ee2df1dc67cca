import inspect
import itertools
import unittest

from indexwise.kinds import held, is_kind, is_value, kind_put, names_in, size_of
from strangers import Prickly, nested, strangers

WHOLE = ("whole",)
NOUGHT = (0, ())
N = (0, (("n", 1),))
M = (0, (("m", 1),))
THREE = (3, ())
GREAT = 10 ** 60 - 1


def row_of(thing, length=N):
    return ("row", length, thing)


def twice(thing):
    return ("pair", thing, thing)


class KindTest(unittest.TestCase):

    def test_all_four_words(self):
        for thing in [WHOLE, ("place", N), ("place", NOUGHT), ("row", THREE, WHOLE), ("pair", WHOLE, ("place", M)),
                      ("row", N, ("row", (1, (("m", 2),)), ("pair", WHOLE, ("row", NOUGHT, ("place", N)))))]:
            self.assertIs(is_kind(thing), True, thing)

    def test_sizes_of_twelve_and_thirteen(self):
        self.assertIs(is_kind(nested(WHOLE, row_of, 11)), True)
        self.assertIs(is_kind(nested(WHOLE, row_of, 12)), False)
        self.assertIs(is_kind(nested(("place", N), row_of, 11)), True)
        self.assertIs(is_kind(nested(("place", N), row_of, 12)), False)
        seven = nested(WHOLE, twice, 2)
        self.assertIs(is_kind(("pair", seven, nested(WHOLE, row_of, 3))), True)
        self.assertIs(is_kind(("pair", seven, nested(WHOLE, row_of, 4))), False)
        self.assertIs(is_kind(("pair", nested(WHOLE, row_of, 4), seven)), False)
        self.assertIs(is_kind(nested(WHOLE, lambda thing: ("pair", thing, WHOLE), 5)), True)
        self.assertIs(is_kind(nested(WHOLE, lambda thing: ("pair", WHOLE, thing), 6)), False)

    def test_numbers_of_99_and_100(self):
        for word, behind in [("place", ()), ("row", (WHOLE,))]:
            for length in [(99, ()), (0, (("n", 99),)), (99, (("m", 99), ("n", 99)))]:
                self.assertIs(is_kind((word, length) + behind), True)
            for length in [(100, ()), (0, (("n", 100),)), (0, (("m", 100), ("n", 1))), (0, (("m", 1), ("n", 100))),
                           (GREAT, ()), (0, (("n", GREAT),))]:
                self.assertIs(is_kind((word, length) + behind), False)
        self.assertIs(is_kind(("pair", WHOLE, ("row", N, ("place", (100, ()))))), False)

    def test_what_looks_nearly_like_a_kind(self):
        for thing in ["whole", ["whole"], (), ("whole", ()), ("whole", WHOLE), ("Whole",), ("wholes",), ("",),
                      ("place",), ("place", 3), ("place", N, WHOLE), ("place", "n"), ("place", WHOLE), ["place", N],
                      ("place", [0, ()]), ("place", (-1, ())), ("place", (True, ())), ("place", (0, (("n", 0),))),
                      ("row",), ("row", N), ("row", WHOLE, N), ("row", N, WHOLE, WHOLE), ("row", 3, WHOLE),
                      ["row", N, WHOLE], ("row", N, ["whole"]), ("row", N, "whole"), ("row", N, ()), ("row", N, N),
                      ("row", N, None), ("row", (0, (("n", 1), ("m", 1))), WHOLE),
                      ("pair",), ("pair", WHOLE), ("pair", WHOLE, WHOLE, WHOLE), ("pair", WHOLE, N),
                      ("pair", N, WHOLE), ("pair", (WHOLE, WHOLE)), ["pair", WHOLE, WHOLE], ("pair", "whole", WHOLE),
                      ("pair", WHOLE, ["whole"]), ("none", N, WHOLE), (WHOLE,), (WHOLE, N, WHOLE), (True,), (0, N)]:
            self.assertIs(is_kind(thing), False, thing)

    def test_anything(self):
        for thing in strangers() + [Prickly()]:
            self.assertIs(is_kind(thing), False)
            self.assertIs(is_kind((thing, thing, thing)), False)
            self.assertIs(is_kind(("whole", thing)), False)
            self.assertIs(is_kind(("place", thing)), False)
            self.assertIs(is_kind(("row", thing, WHOLE)), False)
            self.assertIs(is_kind(("row", N, thing)), False)
            self.assertIs(is_kind(("pair", thing, WHOLE)), False)
            self.assertIs(is_kind(("pair", WHOLE, thing)), False)

    def test_nested_deep(self):
        self.assertIs(is_kind(nested(WHOLE, row_of)), False)
        # Walked whole, this one would have 2 ** 100 points.
        self.assertIs(is_kind(nested(WHOLE, twice)), False)


class SizeTest(unittest.TestCase):

    def test_sizes(self):
        self.assertEqual(size_of(WHOLE), 1)
        self.assertEqual(size_of(("place", (5, (("n", 2),)))), 1)
        self.assertEqual(size_of(("row", (7, ()), WHOLE)), 2)
        self.assertEqual(size_of(("pair", WHOLE, WHOLE)), 3)
        self.assertEqual(size_of(("pair", ("row", N, WHOLE), ("pair", WHOLE, ("row", M, ("place", N))))), 7)
        self.assertEqual(size_of(("row", N, ("pair", WHOLE, ("place", N)))), 4)

    def test_sizes_beyond_the_bounds(self):
        self.assertEqual(size_of(nested(WHOLE, row_of, 12)), 13)
        self.assertEqual(size_of(nested(WHOLE, row_of, 60)), 61)
        self.assertEqual(size_of(nested(WHOLE, twice, 5)), 63)


class NamesTest(unittest.TestCase):

    def test_names_rise_each_once(self):
        self.assertEqual(names_in(WHOLE), [])
        self.assertEqual(names_in(("place", THREE)), [])
        self.assertEqual(names_in(("place", (3, (("m", 1), ("n", 2))))), ["m", "n"])
        self.assertEqual(names_in(("row", N, ("row", M, ("place", N)))), ["m", "n"])
        self.assertEqual(names_in(("pair", ("place", (0, (("z", 1),))), ("row", (0, (("aa", 1), ("y", 1))),
                                                                        ("place", (0, (("a", 1), ("z", 3))))))),
                         ["a", "aa", "y", "z"])

    def test_names_of_rows_and_places_alike(self):
        self.assertEqual(names_in(("row", N, WHOLE)), ["n"])
        self.assertEqual(names_in(("row", THREE, ("place", M))), ["m"])
        self.assertEqual(names_in(("pair", ("place", N), WHOLE)), ["n"])
        self.assertEqual(names_in(("pair", WHOLE, ("place", N))), ["n"])

    def test_the_list_is_the_askers_own(self):
        kind = ("row", N, WHOLE)
        names_in(kind).append("x")
        self.assertEqual(names_in(kind), ["n"])


class PutTest(unittest.TestCase):

    def test_put_in_all_four(self):
        places = {"n": (1, (("k", 2),))}
        there = (1, (("k", 2),))
        self.assertEqual(kind_put(WHOLE, places), WHOLE)
        self.assertEqual(kind_put(("place", N), places), ("place", there))
        self.assertEqual(kind_put(("row", N, ("place", N)), places), ("row", there, ("place", there)))
        self.assertEqual(kind_put(("pair", ("place", N), ("row", M, ("place", N))), places),
                         ("pair", ("place", there), ("row", M, ("place", there))))

    def test_all_at_once(self):
        self.assertEqual(kind_put(("row", N, ("place", M)), {"n": M, "m": N}), ("row", M, ("place", N)))

    def test_nothing_put(self):
        kind = ("row", N, ("pair", WHOLE, ("place", M)))
        self.assertEqual(kind_put(kind, {}), kind)
        self.assertEqual(kind_put(kind, {"k": THREE}), kind)

    def test_beyond_the_bounds(self):
        self.assertEqual(kind_put(("row", (99, (("n", 99),)), WHOLE), {"n": (99, (("n", 99),))}),
                         ("row", (99 + 99 * 99, (("n", 99 * 99),)), WHOLE))
        self.assertEqual(kind_put(("place", (0, (("n", GREAT),))), {"n": (GREAT, ())}), ("place", (GREAT * GREAT, ())))
        self.assertEqual(kind_put(nested(("place", N), row_of, 30), {"n": M}),
                         nested(("place", M), lambda thing: row_of(thing, M), 30))

    def test_the_dict_stays(self):
        places = {"n": M}
        kind_put(("row", N, ("place", M)), places)
        self.assertEqual(places, {"n": M})


class ValueTest(unittest.TestCase):

    def assert_values(self, kind, numbers, things):
        for thing in things:
            self.assertIs(is_value(kind, numbers, thing), True, thing)

    def assert_none(self, kind, numbers, things):
        for thing in things:
            self.assertIs(is_value(kind, numbers, thing), False)

    def test_wholes(self):
        self.assert_values(WHOLE, {}, [0, 1, 10 ** 12 - 1])
        self.assert_none(WHOLE, {}, [10 ** 12, 10 ** 60, -1, True, False, None, "", "0", 0.0, 1.0, (), (0,), [0]])

    def test_places(self):
        kind = ("place", (1, (("n", 2),)))
        self.assert_values(kind, {"n": 3}, [0, 1, 6])
        self.assert_none(kind, {"n": 3}, [7, 8, -1, True, False, None, "0", 0.0, (0,), [0]])
        self.assert_values(kind, {}, [0])
        self.assert_none(kind, {}, [1])
        self.assert_values(("place", (GREAT, ())), {}, [10 ** 12, GREAT - 1])
        self.assert_none(("place", (GREAT, ())), {}, [GREAT])

    def test_there_is_no_place_below_nought(self):
        self.assert_none(("place", NOUGHT), {}, [0, 1, -1, False, None, ()])
        self.assert_none(("place", N), {"n": 0}, [0, 1, -1])
        self.assert_none(("place", N), {"m": 5}, [0, 1, -1])

    def test_rows(self):
        kind = ("row", (1, (("n", 1),)), WHOLE)
        self.assert_values(kind, {"n": 2}, [(0, 0, 0), (1, 2, 10 ** 12 - 1)])
        self.assert_none(kind, {"n": 2}, [(), (1, 2), (1, 2, 3, 4), [1, 2, 3], (1, 2, -1), (-1, 2, 1), (1, True, 3),
                                          (1, 2, None), (1, (2,), 3), 3, "abc", None, {0: 1, 1: 2, 2: 3}, range(3)])
        self.assert_values(kind, {}, [(5,)])

    def test_rows_of_none(self):
        for kind, numbers in [(("row", NOUGHT, WHOLE), {}), (("row", N, WHOLE), {"n": 0}), (("row", N, WHOLE), {}),
                              (("row", N, ("place", N)), {}), (("row", NOUGHT, ("place", NOUGHT)), {})]:
            self.assert_values(kind, numbers, [()])
            self.assert_none(kind, numbers, [(0,), ((),), [], "", {}, None, 0, False])

    def test_rows_of_rows(self):
        kind = ("row", N, ("row", M, ("place", N)))
        self.assert_values(kind, {"n": 2, "m": 3}, [((0, 1, 0), (1, 1, 1))])
        self.assert_none(kind, {"n": 2, "m": 3}, [((0, 1, 0), (1, 1, 2)), ((0, 1, 0), (1, 1)), ((0, 1), (0, 1), (0, 1)),
                                                 ((0, 1, 0),), ((0, 1, 0), [1, 1, 1]), (0, 1, 0, 1, 1, 1)])
        self.assert_values(kind, {"n": 2}, [((), ())])
        self.assert_values(kind, {"m": 2}, [()])

    def test_pairs(self):
        kind = ("pair", WHOLE, ("row", N, ("place", N)))
        self.assert_values(kind, {"n": 2}, [(10 ** 12 - 1, (0, 1))])
        self.assert_values(kind, {}, [(0, ())])
        self.assert_none(kind, {"n": 2}, [((0, 1), 5), (5,), (5, (0, 1), 5), (), [5, (0, 1)], (5, [0, 1]), (5, (0, 2)),
                                          (-1, (0, 1)), (True, (0, 1)), 5, None, "ab"])
        self.assert_none(("pair", WHOLE, ("place", NOUGHT)), {}, [(0, 0), (0,), (0, ())])

    def test_a_row_far_too_long_to_be_there(self):
        self.assert_none(("row", (GREAT, ()), WHOLE), {}, [(), (0,), 0])

    def test_anything(self):
        kinds = [WHOLE, ("place", N), ("row", N, WHOLE), ("pair", WHOLE, WHOLE), ("row", N, ("row", N, WHOLE)),
                 ("pair", ("row", N, WHOLE), WHOLE)]
        for kind, thing in itertools.product(kinds, strangers()):
            wanted = kind[0] in ("whole", "place") and isinstance(thing, int) and not isinstance(thing, bool)
            bound = 10 ** 12 if kind[0] == "whole" else 2
            self.assertIs(is_value(kind, {"n": 2}, thing), wanted and 0 <= thing < bound)

    def test_anything_within(self):
        for thing in [Prickly(), None, True, "0", 0.0, [], nested((), lambda inner: (inner,))]:
            self.assert_none(("row", N, WHOLE), {"n": 2}, [(thing, 0), (0, thing)])
            self.assert_none(("pair", WHOLE, ("place", THREE)), {}, [(thing, 0), (0, thing)])

    def test_the_numbers_stay(self):
        numbers = {"n": 2}
        is_value(("row", N, ("place", M)), numbers, (0, 0))
        self.assertEqual(numbers, {"n": 2})


class HeldTest(unittest.TestCase):

    def test_the_same(self):
        for kind in [WHOLE, ("place", N), ("row", N, ("place", M)), ("pair", WHOLE, ("row", THREE, WHOLE)),
                     nested(WHOLE, row_of, 20)]:
            self.assertIsNone(held(kind, kind))

    def test_unlike(self):
        four = [WHOLE, ("place", N), ("row", N, WHOLE), ("pair", WHOLE, WHOLE)]
        for one, other in itertools.permutations(four, 2):
            self.assertEqual(held(one, other), ("unlike",))
        self.assertEqual(held(("row", N, WHOLE), ("row", N, ("place", N))), ("unlike",))
        self.assertEqual(held(("pair", WHOLE, WHOLE), ("pair", WHOLE, ("row", N, WHOLE))), ("unlike",))
        self.assertEqual(held(("row", N, WHOLE), ("row", N, ("row", N, WHOLE))), ("unlike",))

    def test_parts(self):
        self.assertEqual(held(("place", N), ("place", M)), ("parts", N, M))
        self.assertEqual(held(("place", M), ("place", N)), ("parts", M, N))
        self.assertEqual(held(("row", N, WHOLE), ("row", THREE, WHOLE)), ("parts", N, THREE))
        self.assertEqual(held(("row", N, ("place", N)), ("row", N, ("place", M))), ("parts", N, M))
        self.assertEqual(held(("pair", WHOLE, ("place", M)), ("pair", WHOLE, ("place", THREE))), ("parts", M, THREE))

    def test_from_outside(self):
        self.assertEqual(held(("row", N, ("row", N, WHOLE)), ("row", M, ("row", THREE, WHOLE))), ("parts", N, M))
        self.assertEqual(held(("pair", ("row", N, WHOLE), WHOLE), ("row", N, WHOLE)), ("unlike",))

    def test_left_ahead_of_right(self):
        one = ("pair", ("place", N), ("place", M))
        self.assertEqual(held(one, ("pair", ("place", M), ("place", THREE))), ("parts", N, M))
        self.assertEqual(held(one, ("pair", ("place", M), WHOLE)), ("parts", N, M))
        self.assertEqual(held(one, ("pair", WHOLE, ("place", N))), ("unlike",))
        self.assertEqual(held(one, ("pair", ("place", N), ("place", THREE))), ("parts", M, THREE))

    def test_deep_on_the_left_ahead_of_the_right(self):
        one = ("pair", ("row", N, ("row", N, ("place", N))), ("place", N))
        self.assertEqual(held(one, ("pair", ("row", N, ("row", N, ("place", M))), WHOLE)), ("parts", N, M))
        self.assertEqual(held(one, ("pair", ("row", N, ("row", N, WHOLE)), ("place", M))), ("unlike",))

    def test_a_rows_length_ahead_of_its_thing(self):
        self.assertEqual(held(("row", N, WHOLE), ("row", M, ("place", M))), ("parts", N, M))
        self.assertEqual(held(("row", N, ("pair", WHOLE, WHOLE)), ("row", THREE, WHOLE)), ("parts", N, THREE))

    def test_lengths_beyond_the_bounds(self):
        self.assertEqual(held(("place", (GREAT, ())), ("place", (GREAT - 1, ()))),
                         ("parts", (GREAT, ()), (GREAT - 1, ())))


class ArgumentsTest(unittest.TestCase):

    def test_the_arguments_bear_the_told_names(self):
        told = {is_kind: "thing", size_of: "kind", kind_put: "kind places", names_in: "kind",
                is_value: "kind numbers thing", held: "one other"}
        for function, names in told.items():
            self.assertEqual(list(inspect.signature(function).parameters), names.split())


if __name__ == "__main__":
    unittest.main()
