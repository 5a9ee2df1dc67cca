"""Point 19 and 3 (d): values laid flat and raised again by their kinds."""

import random
import unittest

from drawing import NoneThere, drawn_numbers, drawn_value
from growing import Grower
from indexwise.kinds import is_value, names_in
from indexwise.layout import laid, raised
from indexwise.sums import sum_worth, weight
from small import M, N, NOUGHT, WHOLE, pair, place, row, size

CASES = [
    (WHOLE, 7, [7]), (WHOLE, 0, [0]), (WHOLE, 10 ** 12 - 1, [10 ** 12 - 1]), (place(N), 2, [2]),
    (row(N), (4, 5, 6), [4, 5, 6]), (row(NOUGHT), (), []), (row(NOUGHT, row(N)), (), []),
    (row(N, row(NOUGHT)), ((), (), ()), []), (row(M, row(N)), ((1, 2, 3), (4, 5, 6)), [1, 2, 3, 4, 5, 6]),
    (row(N, row(M)), ((1, 2), (3, 4), (5, 6)), [1, 2, 3, 4, 5, 6]), (pair(WHOLE, WHOLE), (8, 9), [8, 9]),
    (pair(row(N), WHOLE), ((4, 5, 6), 7), [4, 5, 6, 7]), (pair(WHOLE, row(N)), (7, (4, 5, 6)), [7, 4, 5, 6]),
    (row(M, pair(WHOLE, place(N))), ((8, 1), (9, 2)), [8, 1, 9, 2]),
    (row(M, pair(row(NOUGHT), row(M))), (((), (1, 2)), ((), (3, 4))), [1, 2, 3, 4]),
    (pair(row(NOUGHT), pair(row(M, row(NOUGHT)), row(M))), ((), (((), ()), (1, 2))), [1, 2]),
    (pair(pair(WHOLE, WHOLE), pair(WHOLE, WHOLE)), ((1, 2), (3, 4)), [1, 2, 3, 4]),
    (row(size(1), row(size(1), row(size(1)))), (((9,),),), [9]),
    (row(size(1, m=1, n=2), place(size(50))), tuple(range(9)), list(range(9))),
]
NUMBERS = {"m": 2, "n": 3}


class LayoutTest(unittest.TestCase):

    def test_laid_flat_from_the_left(self):
        for kind, value, flat in CASES:
            self.assertTrue(is_value(kind, NUMBERS, value))
            self.assertEqual(laid(value), flat)
            self.assertIsInstance(laid(value), list)

    def test_raised_again(self):
        for kind, value, flat in CASES:
            self.assertEqual(raised(kind, NUMBERS, flat), value)

    def test_a_name_without_a_number_stands_for_0(self):
        self.assertEqual(raised(row(N), {}, []), ())
        self.assertEqual(raised(row(size(2, n=1), row(M)), {"m": 1}, [5, 6]), ((5,), (6,)))
        self.assertEqual(raised(row(size(2), row(M)), {}, []), ((), ()))

    def test_as_many_as_the_weight(self):
        for kind, value, flat in CASES:
            self.assertEqual(sum_worth(weight(kind), NUMBERS), len(flat))

    def test_each_time_a_new_list(self):
        value = ((1, 2), 3)
        laid(value).append(9)
        self.assertEqual(laid(value), [1, 2, 3])

    def test_what_is_handed_in_stays(self):
        numbers, flat = {"n": 2}, [1, 2, 3, 4]
        self.assertEqual(raised(pair(row(N), row(N)), numbers, flat), ((1, 2), (3, 4)))
        self.assertEqual((numbers, flat), ({"n": 2}, [1, 2, 3, 4]))

    def test_great_values(self):
        value = tuple([tuple(range(50))] * 20)
        self.assertEqual(raised(row(size(20), row(size(50))), {}, laid(value)), value)
        empty = ((),) * 20000
        self.assertEqual(laid(empty), [])
        self.assertEqual(raised(row(size(20000), row(NOUGHT)), {}, []), empty)

    def test_kinds_beyond_the_bounds(self):
        kind, value = WHOLE, 3
        for level in range(60):
            kind, value = row(size(1), kind), (value,)
        self.assertEqual(raised(kind, {}, [3]), value)
        self.assertEqual(laid(value), [3])

    def test_kinds_grown_at_random(self):
        tried = 0
        for seed in range(600):
            grower, source = Grower(f"kind {seed}", ["m", "n"]), random.Random(f"layout {seed}")
            kind = grower.kind(3)
            numbers = drawn_numbers(source, names_in(kind), 3)
            try:
                value = drawn_value(source, kind, numbers)
            except NoneThere:
                continue
            tried += 1
            self.assertTrue(is_value(kind, numbers, value))
            self.assertEqual(len(laid(value)), sum_worth(weight(kind), numbers))
            self.assertEqual(raised(kind, numbers, laid(value)), value)
        self.assertGreater(tried, 500)


if __name__ == "__main__":
    unittest.main()
