import inspect
import itertools
import unittest

from indexwise.lengths import worth
from indexwise.sums import of_length, product, sum_worth, together, weight
from small import M, N, NOUGHT, THREE, WHOLE, pair, place, row, size
from strangers import nested

ONE = (((), 1),)
GREAT = 10 ** 60 - 1
MS = (("m", 1),)
NS = (("n", 1),)
# Sums in m and n of all sorts: none, a number, a name, powers, and several of these.
SUMS = [(), ONE, (((), 7),), ((MS, 1),), ((NS, 3),), (((), 2), (MS, 1), (NS, 5)), (((("m", 2),), 1), (NS, 1)),
        (((), 1), ((("m", 1), ("n", 1)), 2), ((("m", 3), ("n", 2)), 1)), ((MS, 1), ((("m", 1), ("n", 2)), 4), (NS, 9))]
GRID = [{"m": m, "n": n} for m, n in itertools.product([0, 1, 2, 5], repeat=2)]
KINDS = [WHOLE, place(N), row(N), row(NOUGHT), row(THREE), pair(WHOLE, place(M)), row(N, row(M)), row(M, row(N)),
         row(size(2, m=1), row(size(n=2))), row(N, row(N, row(N))), pair(row(N), row(M, pair(WHOLE, row(N)))),
         row(NOUGHT, row(N)), row(N, row(NOUGHT, pair(WHOLE, WHOLE))), pair(row(NOUGHT), WHOLE),
         row(size(1, n=1), pair(place(N), row(size(1, m=1), place(size(1, n=3)))))]


def is_sum(thing):
    if not isinstance(thing, tuple) or list(thing) != sorted(thing):
        return False
    for term in thing:
        powers, times = term
        names = [name for name, power in powers]
        if not isinstance(term, tuple) or not isinstance(powers, tuple) or times < 1 or names != sorted(set(names)):
            return False
        if not all(isinstance(part, tuple) and part[1] >= 1 for part in powers):
            return False
    return len({powers for powers, times in thing}) == len(thing)


def a_value(kind, numbers):
    if kind[0] == "row":
        return tuple(a_value(kind[2], numbers) for each in range(worth(kind[1], numbers)))
    if kind[0] == "pair":
        return (a_value(kind[1], numbers), a_value(kind[2], numbers))
    return 0


def wholes_in(value):
    return sum(wholes_in(thing) for thing in value) if isinstance(value, tuple) else 1


class LengthTest(unittest.TestCase):

    def test_a_length_as_a_sum(self):
        self.assertEqual(of_length(NOUGHT), ())
        self.assertEqual(of_length(size(1)), ONE)
        self.assertEqual(of_length(size(7)), (((), 7),))
        self.assertEqual(of_length(N), ((NS, 1),))
        self.assertEqual(of_length(size(3, m=1, n=2)), (((), 3), (MS, 1), (NS, 2)))
        self.assertEqual(of_length(size(0, a=9, aa=1, b=2)), (((("a", 1),), 9), ((("aa", 1),), 1), ((("b", 1),), 2)))
        self.assertEqual(of_length(size(GREAT, n=GREAT)), (((), GREAT), (NS, GREAT)))

    def test_the_worth_is_the_lengths(self):
        for count, m, n in itertools.product([0, 1, 4], repeat=3):
            length = (count, tuple(part for part in [("m", m), ("n", n)] if part[1] > 0))
            self.assertTrue(is_sum(of_length(length)))
            for numbers in GRID + [{}, {"n": 3}]:
                self.assertEqual(sum_worth(of_length(length), numbers), worth(length, numbers))


class TogetherTest(unittest.TestCase):

    def test_sums(self):
        self.assertEqual(together((), ()), ())
        self.assertEqual(together(ONE, ONE), (((), 2),))
        self.assertEqual(together(((NS, 1),), ((MS, 1),)), ((MS, 1), (NS, 1)))
        self.assertEqual(together(((MS, 1), (NS, 2)), (((), 4), (NS, 3))), (((), 4), (MS, 1), (NS, 5)))
        self.assertEqual(together(((NS, GREAT),), ((NS, 1),)), ((NS, GREAT + 1),))

    def test_other_powers_of_a_name_stay_apart(self):
        square = ((("n", 2),), 1)
        both = ((("m", 1), ("n", 1)), 1)
        self.assertEqual(together((square,), ((NS, 1),)), ((NS, 1), square))
        self.assertEqual(together((square, ), ((MS, 1), both)), ((MS, 1), both, square))

    def test_nought_changes_nothing(self):
        for s in SUMS:
            self.assertEqual(together(s, ()), s)
            self.assertEqual(together((), s), s)

    def test_the_worth_is_that_of_both(self):
        for s, t in itertools.product(SUMS, SUMS):
            total = together(s, t)
            self.assertTrue(is_sum(total), total)
            self.assertEqual(total, together(t, s))
            for numbers in GRID:
                self.assertEqual(sum_worth(total, numbers), sum_worth(s, numbers) + sum_worth(t, numbers))


class ProductTest(unittest.TestCase):

    def test_products(self):
        self.assertEqual(product(((NS, 2),), ((NS, 3),)), (((("n", 2),), 6),))
        self.assertEqual(product(((NS, 1),), ((MS, 1),)), (((("m", 1), ("n", 1)), 1),))
        self.assertEqual(product((((), 1), (NS, 1)), (((), 1), (NS, 1))), (((), 1), (NS, 2), ((("n", 2),), 1)))
        self.assertEqual(product((((("m", 2), ("n", 1)), 2),), (((("a", 1), ("n", 4)), 5),)),
                         (((("a", 1), ("m", 2), ("n", 5)), 10),))
        self.assertEqual(product((((), GREAT),), ((NS, GREAT),)), ((NS, GREAT * GREAT),))

    def test_nought_and_one(self):
        for s in SUMS:
            self.assertEqual(product(s, ()), ())
            self.assertEqual(product((), s), ())
            self.assertEqual(product(s, ONE), s)
            self.assertEqual(product(ONE, s), s)

    def test_the_worth_is_the_product(self):
        for s, t in itertools.product(SUMS, SUMS):
            total = product(s, t)
            self.assertTrue(is_sum(total), total)
            self.assertEqual(total, product(t, s))
            for numbers in GRID:
                self.assertEqual(sum_worth(total, numbers), sum_worth(s, numbers) * sum_worth(t, numbers))


class WorthTest(unittest.TestCase):

    def test_worths(self):
        self.assertEqual(sum_worth((), {"n": 5}), 0)
        self.assertEqual(sum_worth(ONE, {"n": 5}), 1)
        self.assertEqual(sum_worth((((), 3), ((("m", 1), ("n", 2)), 4), (NS, 5)), {"m": 2, "n": 10}), 3 + 800 + 50)
        self.assertEqual(sum_worth((((("n", 5),), 1),), {"n": 3}), 243)
        self.assertEqual(sum_worth((((("n", 12),), GREAT),), {"n": 60}), GREAT * 60 ** 12)

    def test_a_name_without_a_number_is_nought(self):
        self.assertEqual(sum_worth((((), 3), (MS, 4), (NS, 5)), {}), 3)
        self.assertEqual(sum_worth((((), 3), (MS, 4), (NS, 5)), {"n": 2, "k": 9}), 13)
        self.assertEqual(sum_worth((((("m", 1), ("n", 2)), 4),), {"n": 10}), 0)

    def test_great_powers(self):
        for worth_of_n in [0, 1]:
            self.assertEqual(sum_worth((((("n", GREAT),), 7),), {"n": worth_of_n}), 7 * worth_of_n)
        for power in range(1, 40):
            self.assertEqual(sum_worth((((("n", power),), 1),), {"n": 7}), 7 ** power)

    def test_the_numbers_stay(self):
        numbers = {"n": 5}
        sum_worth((((("m", 1), ("n", 2)), 4),), numbers)
        self.assertEqual(numbers, {"n": 5})


class WeightTest(unittest.TestCase):

    def test_a_whole_and_a_place(self):
        self.assertEqual(weight(WHOLE), ONE)
        for length in [NOUGHT, THREE, N, size(3, m=1, n=2)]:
            self.assertEqual(weight(place(length)), ONE)

    def test_a_row(self):
        self.assertEqual(weight(row(N)), ((NS, 1),))
        self.assertEqual(weight(row(size(3, m=1, n=2), place(N))), (((), 3), (MS, 1), (NS, 2)))
        self.assertEqual(weight(row(THREE, pair(WHOLE, WHOLE))), (((), 6),))

    def test_a_pair(self):
        self.assertEqual(weight(pair(WHOLE, place(N))), (((), 2),))
        self.assertEqual(weight(pair(row(N), row(M))), ((MS, 1), (NS, 1)))
        self.assertEqual(weight(pair(row(N), pair(WHOLE, row(N)))), (((), 1), (NS, 2)))

    def test_rows_in_rows(self):
        both = ((("m", 1), ("n", 1)), 1)
        self.assertEqual(weight(row(N, row(M))), (both,))
        self.assertEqual(weight(row(M, row(N))), (both,))
        self.assertEqual(weight(row(N, row(N))), (((("n", 2),), 1),))
        self.assertEqual(weight(row(size(1, n=1), row(size(1, n=1)))), (((), 1), (NS, 2), ((("n", 2),), 1)))
        self.assertEqual(weight(row(N, pair(WHOLE, row(M)))), (both, (NS, 1)))

    def test_rows_of_none(self):
        for kind in [row(NOUGHT), row(NOUGHT, row(N)), row(N, row(NOUGHT)), pair(row(NOUGHT), row(NOUGHT, WHOLE))]:
            self.assertEqual(weight(kind), ())
        self.assertEqual(weight(pair(row(NOUGHT), WHOLE)), ONE)
        self.assertEqual(weight(row(N, pair(WHOLE, row(NOUGHT)))), ((NS, 1),))

    def test_beyond_the_bounds(self):
        self.assertEqual(weight(row(size(GREAT), row(size(n=GREAT)))), ((NS, GREAT * GREAT),))
        self.assertEqual(weight(nested(WHOLE, lambda thing: row(N, thing), 60)), (((("n", 60),), 1),))
        self.assertEqual(weight(nested(WHOLE, lambda thing: pair(thing, WHOLE), 60)), (((), 61),))

    def test_just_so_many_whole_numbers_stand_in_each_value(self):
        for kind, numbers in itertools.product(KINDS, GRID):
            self.assertTrue(is_sum(weight(kind)))
            self.assertEqual(sum_worth(weight(kind), numbers), wholes_in(a_value(kind, numbers)), (kind, numbers))


class ArgumentsTest(unittest.TestCase):

    def test_the_arguments_bear_the_told_names(self):
        told = {of_length: "a", together: "s t", product: "s t", weight: "kind", sum_worth: "s numbers"}
        for function, names in told.items():
            self.assertEqual(list(inspect.signature(function).parameters), names.split())


if __name__ == "__main__":
    unittest.main()
