import inspect
import itertools
import unittest

from indexwise.lengths import (added, exceeding, is_length, is_name, less, names_of, of_name, of_number, often,
                               parting, put, worth)
from strangers import Prickly, nested, strangers

NOUGHT = (0, ())
GREAT = 10 ** 60 - 1


def small_lengths():
    """All lengths in m and n whose numbers are at most 2."""
    found = []
    for count, ms, ns in itertools.product(range(3), repeat=3):
        parts = [(name, times) for name, times in [("m", ms), ("n", ns)] if times > 0]
        found.append((count, tuple(parts)))
    return found


SMALL = small_lengths()
# Counts and times differ by at most 2, so what shows at all shows below 4.
GRID = [{"m": m, "n": n} for m, n in itertools.product(range(4), repeat=2)]


def all_names(a, b):
    return {name for name, times in a[1] + b[1]}


class NameTest(unittest.TestCase):

    def test_names(self):
        for name in ["a", "z", "n", "abcdefgh", "zzzzzzzz", "whole", "plus"]:
            self.assertIs(is_name(name), True, name)

    def test_too_short_and_too_long(self):
        for name in ["", "abcdefghi", "a" * 100]:
            self.assertIs(is_name(name), False, name)

    def test_other_signs(self):
        for name in ["A", "aB", "Z", "n1", "1", "a b", " a", "a ", "a\n", "\n", "_", "a_", "`", "{", "a-", "a\x00"]:
            self.assertIs(is_name(name), False, repr(name))

    def test_letters_and_figures_beyond_a_to_z(self):
        for name in ["\u00e4", "a\u00df", "\u00e9", "\u03b1", "\u0430", "\u0131", "\u00aa", "\uff41", "\u0661", "a\u00b2",
                     "\ud800", "\U0001d41a"]:
            self.assertIs(is_name(name), False, ascii(name))

    def test_what_is_no_text(self):
        for thing in strangers() + [["a"], ("a",), {"a": 1}, b"a", bytearray(b"a")]:
            self.assertIs(is_name(thing), False)


class LengthTest(unittest.TestCase):

    def test_lengths(self):
        for thing in [NOUGHT, (1, ()), (3, (("m", 1), ("n", 2))), (0, (("n", 1),)), (GREAT, (("n", GREAT),)),
                      (0, (("a", 1), ("aa", 1), ("ab", 1), ("b", 1))), (100, (("abcdefgh", 100),))]:
            self.assertIs(is_length(thing), True, thing)

    def test_counts(self):
        for count in [-1, -GREAT, True, False, None, 1.0, "1", "", (), [], Prickly()]:
            self.assertIs(is_length((count, ())), False)
            self.assertIs(is_length((count, (("n", 1),))), False)

    def test_lists_for_tuples(self):
        for thing in [[0, ()], (0, []), (0, [("n", 1)]), (0, (["n", 1],)), [0, [["n", 1]]], (0, {"n": 1}), (0, {})]:
            self.assertIs(is_length(thing), False, thing)

    def test_names_not_rising_or_twice(self):
        for thing in [(0, (("n", 1), ("m", 1))), (0, (("n", 1), ("n", 1))), (0, (("n", 1), ("n", 2))),
                      (0, (("a", 1), ("c", 1), ("b", 1))), (0, (("aa", 1), ("a", 1))),
                      (0, (("a", 1), ("b", 1), ("a", 1)))]:
            self.assertIs(is_length(thing), False, thing)

    def test_times(self):
        for times in [0, -1, True, False, None, 1.0, "1", (), Prickly()]:
            self.assertIs(is_length((0, (("n", times),))), False)
            self.assertIs(is_length((0, (("m", 1), ("n", times)))), False)

    def test_names_that_are_none(self):
        for name in ["", "N", "abcdefghi", "n1", "\u00e4", None, 1, ("n",), Prickly()]:
            self.assertIs(is_length((0, ((name, 1),))), False)
            self.assertIs(is_length((0, (("a", 1), (name, 1)))), False)

    def test_one_thing_more_or_fewer(self):
        for thing in [(), (0,), (0, (), ()), (0, (), 0), (0, (("n",),)), (0, (("n", 1, 1),)), (0, ((),)), (0, ("n", 1)),
                      (("n", 1),), ((), 0), (0, (("n", 1), ())), (0, 0), (0, None), (0, "")]:
            self.assertIs(is_length(thing), False, thing)

    def test_anything(self):
        for thing in strangers():
            self.assertIs(is_length(thing), False)
            self.assertIs(is_length((thing, thing)), False)
            self.assertIs(is_length((0, (thing,))), False)
            self.assertIs(is_length((0, (("n", 1), thing))), False)

    def test_nested_deep(self):
        self.assertIs(is_length(nested(NOUGHT, lambda thing: (0, (("n", thing),)), 30)), False)
        self.assertIs(is_length(nested(NOUGHT, lambda thing: (thing, ()))), False)
        self.assertIs(is_length(nested(NOUGHT, lambda thing: (0, thing), 2)), False)


class MakingTest(unittest.TestCase):

    def test_of_number(self):
        for n in [0, 1, 99, 100, GREAT]:
            self.assertEqual(of_number(n), (n, ()))

    def test_of_name(self):
        self.assertEqual(of_name("n"), (0, (("n", 1),)))
        self.assertEqual(of_name("n", 1), (0, (("n", 1),)))
        self.assertEqual(of_name("abcdefgh", 7), (0, (("abcdefgh", 7),)))
        self.assertEqual(of_name("n", GREAT), (0, (("n", GREAT),)))
        self.assertEqual(of_name("n", 0), NOUGHT)
        self.assertEqual(of_name(name="n", times=2), (0, (("n", 2),)))

    def test_added(self):
        self.assertEqual(added((1, (("n", 2),)), (2, (("m", 1), ("n", 3)))), (3, (("m", 1), ("n", 5))))
        self.assertEqual(added((0, (("b", 1),)), (0, (("a", 1), ("c", 1)))), (0, (("a", 1), ("b", 1), ("c", 1))))
        self.assertEqual(added((0, (("b", 1),)), (0, (("a", 2), ("aa", 1)))), (0, (("a", 2), ("aa", 1), ("b", 1))))
        self.assertEqual(added(NOUGHT, NOUGHT), NOUGHT)
        self.assertEqual(added((GREAT, (("n", GREAT),)), (GREAT, (("n", 1),))), (2 * GREAT, (("n", GREAT + 1),)))

    def test_often(self):
        self.assertEqual(often((3, (("m", 1), ("n", 2))), 4), (12, (("m", 4), ("n", 8))))
        self.assertEqual(often((3, (("m", 1), ("n", 2))), 1), (3, (("m", 1), ("n", 2))))
        self.assertEqual(often((3, (("m", 1), ("n", 2))), 0), NOUGHT)
        self.assertEqual(often(NOUGHT, 5), NOUGHT)
        self.assertEqual(often((GREAT, (("n", GREAT),)), GREAT), (GREAT * GREAT, (("n", GREAT * GREAT),)))

    def test_sums_are_lengths_and_of_the_sum_of_worths(self):
        for a, b in itertools.product(SMALL, SMALL):
            total = added(a, b)
            self.assertTrue(is_length(total))
            for numbers in GRID:
                self.assertEqual(worth(total, numbers), worth(a, numbers) + worth(b, numbers))

    def test_often_is_added_so_often(self):
        for a in SMALL:
            total = NOUGHT
            for n in range(5):
                self.assertEqual(often(a, n), total)
                total = added(total, a)

    def test_names_of(self):
        self.assertEqual(names_of(NOUGHT), [])
        self.assertEqual(names_of((5, ())), [])
        self.assertEqual(names_of((3, (("a", 9), ("aa", 1), ("b", 2)))), ["a", "aa", "b"])
        self.assertEqual(names_of(added(of_name("n"), of_name("m"))), ["m", "n"])

    def test_names_of_is_the_askers_own(self):
        a = (3, (("m", 1), ("n", 2)))
        told = names_of(a)
        told.append("x")
        self.assertEqual(names_of(a), ["m", "n"])


class LessTest(unittest.TestCase):

    def test_lengths(self):
        self.assertEqual(less((5, (("m", 1), ("n", 3))), (2, (("n", 1),))), (3, (("m", 1), ("n", 2))))
        self.assertEqual(less((5, (("m", 1), ("n", 3))), (5, (("n", 3),))), (0, (("m", 1),)))
        self.assertEqual(less((5, (("m", 1),)), NOUGHT), (5, (("m", 1),)))
        self.assertEqual(less((GREAT, (("n", GREAT),)), (GREAT - 1, (("n", 1),))), (1, (("n", GREAT - 1),)))

    def test_none(self):
        self.assertIsNone(less((1, ()), (2, ())))
        self.assertIsNone(less((1, (("n", 5),)), (2, (("n", 1),))))
        self.assertIsNone(less((9, (("n", 1),)), (0, (("n", 2),))))
        self.assertIsNone(less((9, (("m", 5), ("n", 1))), (0, (("m", 1), ("n", 2)))))
        self.assertIsNone(less((9, (("n", 9),)), (0, (("m", 1),))))
        self.assertIsNone(less((9, ()), (0, (("m", 1),))))
        self.assertIsNone(less((9, (("a", 1), ("c", 1))), (0, (("b", 1),))))
        self.assertIsNone(less(NOUGHT, (GREAT, ())))

    def test_less_itself(self):
        for a in SMALL + [(GREAT, (("n", GREAT),))]:
            self.assertEqual(less(a, a), NOUGHT)

    def test_all_small_ones(self):
        for a, b in itertools.product(SMALL, SMALL):
            rest = less(a, b)
            fits = all(worth(b, numbers) <= worth(a, numbers) for numbers in GRID)
            self.assertEqual(rest is not None, fits, (a, b))
            if fits:
                self.assertTrue(is_length(rest))
                self.assertEqual(added(rest, b), a)


class PutTest(unittest.TestCase):

    def test_put(self):
        self.assertEqual(put((3, (("m", 1), ("n", 2))), {"n": (1, (("k", 2),))}), (5, (("k", 4), ("m", 1))))
        self.assertEqual(put((3, (("m", 1), ("n", 2))), {"m": (4, ()), "n": (5, ())}), (17, ()))

    def test_all_at_once(self):
        places = {"m": of_name("n"), "n": of_name("m")}
        self.assertEqual(put((3, (("m", 1), ("n", 2))), places), (3, (("m", 2), ("n", 1))))
        self.assertEqual(put(of_name("n"), {"n": (1, (("n", 2),))}), (1, (("n", 2),)))
        self.assertEqual(put(of_name("m"), {"m": of_name("n"), "n": (7, ())}), of_name("n"))
        self.assertEqual(put(of_name("n"), {"m": (7, ()), "n": of_name("m")}), of_name("m"))

    def test_names_meet(self):
        self.assertEqual(put((1, (("m", 2), ("n", 3))), {"m": (1, (("n", 1),))}), (3, (("n", 5),)))
        self.assertEqual(put((1, (("m", 2), ("n", 3))), {"n": (1, (("m", 1),))}), (4, (("m", 5),)))

    def test_names_without_a_place_stay(self):
        a = (3, (("m", 1), ("n", 2)))
        self.assertEqual(put(a, {}), a)
        self.assertEqual(put(a, {"k": (9, ())}), a)
        self.assertEqual(put((4, ()), {"n": (9, ())}), (4, ()))

    def test_nought(self):
        self.assertEqual(put((3, (("m", 1), ("n", 2))), {"m": NOUGHT}), (3, (("n", 2),)))
        self.assertEqual(put(of_name("n"), {"n": NOUGHT}), NOUGHT)

    def test_great_numbers(self):
        self.assertEqual(put((1, (("n", GREAT),)), {"n": (GREAT, (("k", 2),))}), (GREAT * GREAT + 1, (("k", 2 * GREAT),)))

    def test_the_worth_is_that_by_the_places_worths(self):
        for a, b, c in itertools.product(SMALL, SMALL[::3], SMALL[::4]):
            there = put(a, {"m": b, "n": c})
            self.assertTrue(is_length(there))
            for numbers in GRID[::3]:
                self.assertEqual(worth(there, numbers), worth(a, {"m": worth(b, numbers), "n": worth(c, numbers)}))

    def test_the_dict_stays(self):
        places = {"m": of_name("n"), "n": (1, (("n", 2),))}
        put((3, (("k", 1), ("m", 1), ("n", 2))), places)
        self.assertEqual(places, {"m": of_name("n"), "n": (1, (("n", 2),))})


class WorthTest(unittest.TestCase):

    def test_worth(self):
        self.assertEqual(worth((3, (("m", 1), ("n", 2))), {"m": 10, "n": 20}), 53)
        self.assertEqual(worth((3, (("m", 1), ("n", 2))), {"m": 0, "n": 0}), 3)
        self.assertEqual(worth(NOUGHT, {"n": 60}), 0)
        self.assertEqual(worth((GREAT, (("n", GREAT),)), {"n": 60}), 61 * GREAT)

    def test_a_name_that_is_not_there_stands_for_nought(self):
        self.assertEqual(worth((3, (("m", 1), ("n", 2))), {}), 3)
        self.assertEqual(worth((3, (("m", 1), ("n", 2))), {"n": 5}), 13)
        self.assertEqual(worth((3, (("m", 1), ("n", 2))), {"k": 5}), 3)

    def test_the_numbers_stay(self):
        numbers = {"n": 5}
        worth((3, (("m", 1), ("n", 2))), numbers)
        self.assertEqual(numbers, {"n": 5})


class PartingTest(unittest.TestCase):

    def test_the_same(self):
        for a in SMALL + [(GREAT, (("n", GREAT),))]:
            self.assertIsNone(parting(a, a))
        self.assertIsNone(parting((1, (("n", 1),)), added(of_name("n"), of_number(1))))

    def test_counts_unlike(self):
        self.assertEqual(parting((1, (("m", 1),)), (2, (("n", 3),))), {"m": 0, "n": 0})
        self.assertEqual(parting((2, (("m", 1),)), (1, (("n", 3),))), {"m": 0, "n": 0})
        self.assertEqual(parting((2, (("m", 1),)), (1, (("m", 1),))), {"m": 0})
        self.assertEqual(parting((2, ()), (1, ())), {})

    def test_the_first_name_whose_times_are_unlike(self):
        self.assertEqual(parting((1, (("m", 1), ("n", 2))), (1, (("m", 1), ("n", 3)))), {"m": 0, "n": 1})
        self.assertEqual(parting((1, (("m", 1), ("n", 2))), (1, (("m", 2), ("n", 3)))), {"m": 1, "n": 0})
        self.assertEqual(parting((1, (("n", 2),)), (1, (("m", 1), ("n", 2)))), {"m": 1, "n": 0})
        self.assertEqual(parting((1, (("m", 1), ("n", 2))), (1, (("n", 2),))), {"m": 1, "n": 0})
        self.assertEqual(parting((1, (("b", 1),)), (1, (("a", 1), ("aa", 1)))), {"a": 1, "aa": 0, "b": 0})
        self.assertEqual(parting((1, (("a", 1), ("b", 1))), (1, (("a", 1), ("aa", 1)))), {"a": 0, "aa": 1, "b": 0})
        self.assertEqual(parting((5, (("n", GREAT),)), (5, (("n", GREAT - 1),))), {"n": 1})

    def test_told_just_where_they_part(self):
        for a, b in itertools.product(SMALL, SMALL):
            numbers = parting(a, b)
            same = all(worth(a, each) == worth(b, each) for each in GRID)
            self.assertEqual(numbers is None, same)
            self.assertEqual(same, a == b)
            self.assertEqual(numbers, parting(b, a))
            if not same:
                self.assertEqual(set(numbers), all_names(a, b))
                self.assertNotEqual(worth(a, numbers), worth(b, numbers))

    def test_the_dict_is_the_askers_own(self):
        a, b = (1, (("m", 1),)), (2, (("n", 3),))
        parting(a, b)["m"] = 7
        self.assertEqual(parting(a, b), {"m": 0, "n": 0})


class ExceedingTest(unittest.TestCase):

    def test_at_most(self):
        self.assertIsNone(exceeding((1, (("n", 2),)), (1, (("n", 2),))))
        self.assertIsNone(exceeding((1, (("n", 2),)), (1, (("m", 1), ("n", 2)))))
        self.assertIsNone(exceeding((1, (("n", 2),)), (5, (("n", 3),))))
        self.assertIsNone(exceeding(NOUGHT, (0, (("n", 3),))))

    def test_counts_greater(self):
        self.assertEqual(exceeding((2, (("m", 1),)), (1, (("n", 3),))), {"m": 0, "n": 0})
        self.assertEqual(exceeding((2, ()), (1, ())), {})
        self.assertEqual(exceeding((2, (("n", 1),)), (1, (("n", 9),))), {"n": 0})

    def test_the_first_name_with_the_least_number(self):
        self.assertEqual(exceeding((1, (("n", 2),)), (1, (("n", 1),))), {"n": 1})
        self.assertEqual(exceeding((0, (("n", 2),)), (5, (("n", 1),))), {"n": 6})
        self.assertEqual(exceeding((0, (("n", 3),)), (4, (("n", 1),))), {"n": 3})
        self.assertEqual(exceeding((0, (("n", 3),)), (5, (("n", 1),))), {"n": 3})
        self.assertEqual(exceeding((0, (("n", 3),)), (6, (("n", 1),))), {"n": 4})
        self.assertEqual(exceeding((0, (("m", 1), ("n", 1))), (7, ())), {"m": 8, "n": 0})
        self.assertEqual(exceeding((0, (("m", 1), ("n", 1))), (7, (("m", 1),))), {"m": 0, "n": 8})
        self.assertEqual(exceeding((0, (("b", 9),)), (1, (("a", 3), ("c", 1)))), {"a": 0, "b": 1, "c": 0})
        self.assertEqual(exceeding((0, (("n", 1),)), (GREAT, ())), {"n": GREAT + 1})

    def test_either_way_round(self):
        a, b = (0, (("m", 2), ("n", 1))), (3, (("m", 1), ("n", 2)))
        self.assertEqual(exceeding(a, b), {"m": 4, "n": 0})
        self.assertEqual(exceeding(b, a), {"m": 0, "n": 0})

    def test_told_just_where_it_exceeds(self):
        for a, b in itertools.product(SMALL, SMALL):
            numbers = exceeding(a, b)
            at_most = all(worth(a, each) <= worth(b, each) for each in GRID)
            self.assertEqual(numbers is None, at_most)
            if not at_most:
                self.assert_least(a, b, numbers)

    def assert_least(self, a, b, numbers):
        self.assertEqual(set(numbers), all_names(a, b))
        self.assertGreater(worth(a, numbers), worth(b, numbers))
        shown = [name for name in numbers if numbers[name] > 0]
        self.assertEqual(shown, [] if a[0] > b[0] else [self.first_greater(a, b)])
        for name in shown:
            before = {**numbers, name: numbers[name] - 1}
            self.assertLessEqual(worth(a, before), worth(b, before))

    def first_greater(self, a, b):
        return min(name for name, times in a[1] if times > dict(b[1]).get(name, 0))

    def test_the_dict_is_the_askers_own(self):
        a, b = (0, (("m", 1),)), (2, (("n", 3),))
        exceeding(a, b)["m"] = 99
        self.assertEqual(exceeding(a, b), {"m": 3, "n": 0})


class ArgumentsTest(unittest.TestCase):

    def test_the_arguments_bear_the_told_names(self):
        told = {is_name: "thing", is_length: "thing", of_number: "n", of_name: "name times", added: "a b",
                often: "a n", less: "a b", put: "a places", worth: "a numbers", names_of: "a", parting: "a b",
                exceeding: "a b"}
        for function, names in told.items():
            self.assertEqual(list(inspect.signature(function).parameters), names.split())


if __name__ == "__main__":
    unittest.main()
