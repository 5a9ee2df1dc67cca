"""Points 17 and 18 with the plain runner, and what it refuses."""

import unittest

from bounds import SEVERAL, Bounds, rounds
from cases import CASES, DEAR, LONG, Case
from indexwise.errors import IndexwiseError, NoName, NoValue, TooGreat, TooLong
from indexwise.found import Found
from indexwise.layout import laid
from indexwise.plainruns import PlainRun
from indexwise.rows import nodes_of
from indexwise.runs import Run
from small import M, N, WHOLE, name, number, pair, place, row, size


class CasesTest(unittest.TestCase):

    def test_what_each_expression_comes_to(self):
        for case in CASES:
            told = PlainRun(Found(case.program())).done("f", case.numbers, case.args)
            self.assertEqual(told, (case.value, case.steps), case.e)
            self.assertIsInstance(told, tuple)

    def test_every_word_is_there(self):
        words = {node[0] for case in CASES for node in nodes_of(case.e)}
        self.assertEqual(len(words), 27)

    def test_the_side_that_is_not_gone_to_would_be_refused(self):
        with self.assertRaises(TooGreat):
            case = Case(DEAR, None, 0, [LONG])
            PlainRun(Found(case.program())).done("f", case.numbers, case.args)

    def test_a_name_without_a_number_stands_for_0(self):
        run = PlainRun(Found([("def", "f", ("m", "n"), (("u", row(M)), ("v", row(N))), ("length", size(1, m=1, n=7)))]))
        self.assertEqual(run.done("f", {}, [(), ()]), (1, 0))
        self.assertEqual(run.done("f", {"n": 1}, [(), (4,)]), (8, 0))
        self.assertEqual(run.done("f", {"n": 1, "k": 5}, [(), (4,)]), (8, 0))


class PlainBoundsTest(Bounds, unittest.TestCase):

    def done(self, found, numbers, args):
        value, steps = PlainRun(found).done("f", numbers, args)
        return (laid(value), steps)


class SeveralTest(unittest.TestCase):

    def setUp(self):
        self.run_of_all = PlainRun(Found(SEVERAL))

    def refused(self, error, ask):
        with self.assertRaises(IndexwiseError) as taken:
            ask()
        self.assertEqual((taken.exception.__class__, taken.exception.place), (error, None))

    def test_each_is_counted_by_itself(self):
        run = self.run_of_all
        for again in range(2):
            self.assertEqual(run.asked(0), (0, 990))
            self.assertEqual(run.done("g", {"n": 3}, [(1, 2, 3)]), (((1, 2, 3), 0), 4))
            self.refused(TooLong, lambda: run.asked(1))
            self.assertEqual(run.asked(2), ((8, 0), 99))
            self.refused(TooLong, lambda: run.done("f", {"n": 51}, [(0,) * 51]))
            self.assertEqual(run.done("f", {"n": 50}, [(0,) * 50]), (0, 1000))
            self.refused(TooGreat, lambda: run.asked(3))
            self.refused(NoValue, lambda: run.done("f", {"n": 50}, []))
            self.refused(NoName, lambda: run.asked(4))

    def test_two_runners_are_apart(self):
        one, other = PlainRun(Found(SEVERAL)), PlainRun(Found([("ask", number(4))]))
        self.assertEqual((one.asked(0), other.asked(0)), ((0, 990), (4, 0)))

    def test_asks_are_counted_from_0_among_defs(self):
        rows = [("ask", number(4)), ("def", "f", (), (), number(5)), ("ask", ("call", "f", ())), ("ask", number(6))]
        run = PlainRun(Found(rows))
        self.assertEqual([run.asked(k) for k in range(3)], [(4, 0), (5, 1), (6, 0)])


class RefusedTest(unittest.TestCase):

    def setUp(self):
        params = (("v", row(N)), ("p", place(N)), ("q", pair(WHOLE, row(size(1, n=1), WHOLE))))
        self.runner = PlainRun(Found([
            ("def", "long", (), (), rounds(size(99), rounds(size(99)))),
            ("def", "f", ("n",), params, ("get", name("v"), name("p"))), ("ask", number(1))]))
        self.args = [(4, 5), 1, (9, (1, 2, 3))]

    def assert_refused(self, error, f, numbers, args):
        with self.assertRaises(IndexwiseError) as taken:
            self.runner.done(f, numbers, args)
        self.assertEqual((taken.exception.__class__, taken.exception.place), (error, None))

    def test_done(self):
        self.assertEqual(self.runner.done("f", {"n": 2}, self.args), (5, 0))

    def test_no_def(self):
        for f in ["g", "F", "", "ask", "n", "v"]:
            self.assert_refused(NoName, f, {}, [])
            self.assert_refused(NoName, f, {"n": 2}, self.args)

    def test_no_ask(self):
        for k in [-1, 1, 2, -10 ** 50, 10 ** 50]:
            with self.assertRaises(NoName) as taken:
                self.runner.asked(k)
            self.assertIsNone(taken.exception.place)
        with self.assertRaises(NoName):
            PlainRun(Found([])).asked(0)

    def test_too_many_or_too_few_args(self):
        for args in [[], self.args[:2], self.args + [1]]:
            self.assert_refused(NoValue, "f", {"n": 2}, args)
        self.assert_refused(NoValue, "long", {}, [1])

    def test_no_values(self):
        wrong = [
            [(4, 5, 6), 1, (9, (1, 2, 3))], [(4,), 0, (9, (1, 2, 3))], [[4, 5], 1, (9, (1, 2, 3))], [4, 1, (9, (1, 2, 3))],
            [(4, 10 ** 12), 1, (9, (1, 2, 3))], [(4, -1), 1, (9, (1, 2, 3))], [(4, True), 1, (9, (1, 2, 3))],
            [(4, 5), 2, (9, (1, 2, 3))], [(4, 5), -1, (9, (1, 2, 3))], [(4, 5), None, (9, (1, 2, 3))],
            [(4, 5), 1, (9, (1, 2))], [(4, 5), 1, (9, (1, 2, 3), 1)], [(4, 5), 1, [9, (1, 2, 3)]], [(4, 5), 1, (9, 9)],
            [(4, 5), False, (9, (1, 2, 3))], ["45", 1, (9, (1, 2, 3))],
        ]
        for args in wrong:
            self.assert_refused(NoValue, "f", {"n": 2}, args)
        self.assert_refused(NoValue, "f", {"n": 3}, self.args)
        self.assert_refused(NoValue, "f", {}, self.args)
        self.assert_refused(NoValue, "f", {}, [(), 0, (9, (1,))])

    def test_then_as_runs_are(self):
        self.assert_refused(NoValue, "long", {}, [0])
        self.assert_refused(TooLong, "long", {}, [])

    def test_what_is_handed_in_stays(self):
        numbers, args = {"n": 2}, list(self.args)
        self.runner.done("f", numbers, args)
        self.assertEqual((numbers, args), ({"n": 2}, self.args))

    def test_a_runner_stands_under_run(self):
        self.assertIsInstance(self.runner, Run)
        self.assertEqual(PlainRun.__bases__, (Run,))


class DeepTest(unittest.TestCase):

    def test_twelve_rows_as_deep_as_may_be(self):
        rows = [("def", "fa", (), (), self.nested(number(3)))]
        for k in range(1, 11):
            rows.append(("def", "f" + "abcdefghijkl"[k], (), (), self.nested(("call", "f" + "abcdefghijkl"[k - 1], ()))))
        rows.append(("ask", self.nested(("call", "fk", ()))))
        self.assertEqual(PlainRun(Found(rows)).asked(0), (3, 11))

    def nested(self, e):
        for level in range(7):
            e = ("if", number(0), number(9), e)
        return e


if __name__ == "__main__":
    unittest.main()
