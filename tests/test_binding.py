import inspect
import itertools
import unittest

from indexwise.binding import bound
from indexwise.kinds import kind_put
from indexwise.lengths import added, exceeding, worth
from small import M, N, NOUGHT, THREE, WHOLE, pair, place, row, size

K = size(k=1)
UNLIKE = ("unlike",)
GREAT = 10 ** 60 - 1
LENGTHS = [NOUGHT, size(1), size(4), N, M, size(2, n=1), size(m=1, n=2), size(7, k=3)]


class BoundTest(unittest.TestCase):

    def test_nothing_to_bind(self):
        self.assertEqual(bound((), [], []), ("bound", ()))
        self.assertEqual(bound((), [WHOLE, row(THREE, place(THREE))], [WHOLE, row(THREE, place(THREE))]), ("bound", ()))

    def test_a_name_alone(self):
        for length in LENGTHS + [size(GREAT, n=GREAT)]:
            self.assertEqual(bound(("n",), [row(N)], [row(length)]), ("bound", (length,)))

    def test_in_the_order_of_the_names(self):
        params = [row(N), row(M), row(K)]
        given = [row(size(1)), row(size(2)), row(size(3))]
        lengths = {"n": size(1), "m": size(2), "k": size(3)}
        for names in itertools.permutations("kmn"):
            self.assertEqual(bound(names, params, given), ("bound", tuple(lengths[name] for name in names)))

    def test_the_rest_is_taken_away(self):
        self.assertEqual(bound(("n",), [row(size(2, n=1))], [row(size(5, k=1))]), ("bound", (size(3, k=1),)))
        self.assertEqual(bound(("n",), [row(size(2, n=1))], [row(size(2))]), ("bound", (NOUGHT,)))
        # The given n is another one than the def's.
        self.assertEqual(bound(("n",), [row(size(2, n=1))], [row(size(5, n=3))]), ("bound", (size(3, n=3),)))

    def test_the_documents_own(self):
        params = [row(N), row(size(m=1, n=1)), row(size(3, n=2))]
        self.assertEqual(bound(("n", "m"), params, [row(size(2)), row(size(7)), row(size(7))]),
                         ("bound", (size(2), size(5))))
        given = [row(size(1, m=1)), row(size(5, m=3, n=1)), row(size(5, m=2))]
        self.assertEqual(bound(("n", "m"), params, given), ("bound", (size(1, m=1), size(4, m=2, n=1))))

    def test_what_is_bound_is_put_in_at_once(self):
        params = [row(N), row(M), row(size(0, m=1, n=2)), row(size(0, k=1, m=2, n=1), place(size(k=1, n=1)))]
        given = [row(M), row(N), row(size(0, m=2, n=1)), row(size(5, m=1, n=2), place(size(5, m=1)))]
        self.assertEqual(bound(("k", "m", "n"), params, given), ("bound", (size(5), N, M)))

    def test_bound_within_kinds(self):
        param = pair(row(N, place(N)), row(M, pair(WHOLE, place(size(m=1, n=1)))))
        given = pair(row(THREE, place(THREE)), row(K, pair(WHOLE, place(size(3, k=1)))))
        self.assertEqual(bound(("m", "n"), [param], [given]), ("bound", (K, THREE)))
        self.assertEqual(bound(("m", "n"), [row(N, row(M, WHOLE))], [row(M, row(N, WHOLE))]), ("bound", (N, M)))

    def test_the_params_become_the_given_ones(self):
        params = [row(N, pair(row(size(1, m=1, n=1)), place(M))), row(size(3, k=1, m=2), row(size(m=1, n=1)))]
        for k, m, n in itertools.product(LENGTHS, repeat=3):
            places = {"k": k, "m": m, "n": n}
            given = [kind_put(param, places) for param in params]
            self.assertEqual(bound(("k", "m", "n"), params, given), ("bound", (k, m, n)))


class FaultTest(unittest.TestCase):

    def test_unlike(self):
        four = [WHOLE, place(THREE), row(THREE), pair(WHOLE, WHOLE)]
        for one, other in itertools.permutations(four, 2):
            self.assertEqual(bound((), [one], [other]), UNLIKE)
            self.assertEqual(bound(("n",), [row(N, one)], [row(M, other)]), UNLIKE)
            self.assertEqual(bound((), [WHOLE, one], [WHOLE, other]), UNLIKE)
            self.assertEqual(bound((), [pair(WHOLE, one)], [pair(WHOLE, other)]), UNLIKE)

    def test_exceeds(self):
        self.assertEqual(bound(("n",), [row(size(3, n=1))], [row(size(2))]), ("exceeds", THREE, size(2)))
        self.assertEqual(bound(("n",), [row(size(3, n=1))], [row(N)]), ("exceeds", THREE, N))
        self.assertEqual(bound(("n",), [row(size(3, n=1))], [row(size(2, n=9))]), ("exceeds", THREE, size(2, n=9)))

    def test_exceeds_with_what_is_bound_put_in(self):
        params = [row(N), row(size(1, m=1, n=2))]
        self.assertEqual(bound(("n", "m"), params, [row(K), row(size(5, k=1))]), ("exceeds", size(1, k=2), size(5, k=1)))
        self.assertEqual(bound(("n", "m"), params, [row(M), row(size(5, n=9))]), ("exceeds", size(1, m=2), size(5, n=9)))
        self.assertEqual(bound(("n", "m"), params, [row(M), row(size(0, m=2))]), ("exceeds", size(1, m=2), size(m=2)))

    def test_parts(self):
        self.assertEqual(bound((), [place(THREE)], [place(size(2))]), ("parts", THREE, size(2)))
        self.assertEqual(bound((), [place(THREE)], [place(size(4))]), ("parts", THREE, size(4)))
        self.assertEqual(bound((), [row(THREE)], [row(N)]), ("parts", THREE, N))

    def test_parts_with_what_is_bound_put_in(self):
        self.assertEqual(bound(("n",), [row(N), row(N)], [row(M), row(K)]), ("parts", M, K))
        self.assertEqual(bound(("n",), [row(N), row(N)], [row(M), row(N)]), ("parts", M, N))
        self.assertEqual(bound(("n",), [row(N), row(size(3, n=2))], [row(size(1, m=1)), row(size(5, m=1))]),
                         ("parts", size(5, m=2), size(5, m=1)))
        self.assertEqual(bound(("n",), [row(N, place(size(1, n=1)))], [row(M, place(M))]), ("parts", size(1, m=1), M))
        self.assertEqual(bound(("n",), [row(size(2, n=1)), place(N)], [row(size(7)), place(size(7))]),
                         ("parts", size(5), size(7)))

    def test_the_first_fault(self):
        params = [row(size(3, n=1)), place(N), WHOLE]
        self.assertEqual(bound(("n",), params, [row(size(2)), place(K), row(N)]), ("exceeds", THREE, size(2)))
        self.assertEqual(bound(("n",), params, [row(size(5)), place(K), row(N)]), ("parts", size(2), K))
        self.assertEqual(bound(("n",), params, [row(size(5)), place(size(2)), row(N)]), UNLIKE)
        self.assertEqual(bound(("n",), params, [WHOLE, place(K), row(N)]), UNLIKE)

    def test_the_first_point_within_a_kind(self):
        self.assertEqual(bound(("n",), [row(size(3, n=1), WHOLE)], [row(N, place(N))]), ("exceeds", THREE, N))
        self.assertEqual(bound((), [row(THREE, WHOLE)], [row(N, place(N))]), ("parts", THREE, N))
        one = pair(row(THREE, place(size(1))), WHOLE)
        self.assertEqual(bound((), [one], [pair(row(THREE, place(size(2))), row(N))]), ("parts", size(1), size(2)))
        self.assertEqual(bound((), [one], [pair(row(THREE, WHOLE), row(N))]), UNLIKE)

    def test_told_just_where_it_exceeds(self):
        for first, second in itertools.product(LENGTHS, repeat=2):
            answer = bound(("n", "m"), [row(N), row(size(1, m=1, n=2))], [row(first), row(second)])
            rest = added(size(1), added(first, first))
            if exceeding(rest, second) is None:
                self.assertEqual(answer[0], "bound")
                self.assertEqual(added(answer[1][1], rest), second)
            else:
                self.assertEqual(answer, ("exceeds", rest, second))
                numbers = exceeding(rest, second)
                self.assertGreater(worth(rest, numbers), worth(second, numbers))


class OwnTest(unittest.TestCase):

    def test_what_is_handed_in_stays(self):
        params, given = [row(N), row(size(m=1, n=1))], [row(K), row(size(2, k=1))]
        self.assertEqual(bound(("n", "m"), params, given), ("bound", (K, size(2))))
        self.assertEqual((params, given), ([row(N), row(size(m=1, n=1))], [row(K), row(size(2, k=1))]))
        self.assertEqual(bound(("n", "m"), params, given), ("bound", (K, size(2))))

    def test_the_arguments_bear_the_told_names(self):
        self.assertEqual(list(inspect.signature(bound).parameters), ["names", "params", "given"])


if __name__ == "__main__":
    unittest.main()
