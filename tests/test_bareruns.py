"""Point 21: bare runs, with the steps and refusals of point 18."""

import unittest

from bounds import SEVERAL, Bounds
from cases import CASES, DEAR, LONG, Case
from indexwise.bareruns import BareRun
from indexwise.errors import IndexwiseError, NoName, TooGreat, TooLong
from indexwise.found import Found
from indexwise.layout import laid
from indexwise.making import made
from indexwise.runs import Run
from small import A, B, name, number

ONE = (((), 1),)
M, N = (((("m", 1),), 1),), (((("n", 1),), 1),)
MN = (((("m", 1), ("n", 1)), 1),)
NUMBERS = {"m": 2, "n": 3}
G, H, X, P = name("g"), name("h"), name("x"), name("p")


def whole(n):
    return (((), n),) if n > 0 else ()


def size(s):
    return ("size", s)


def bare(code, params, flats, numbers=None, functions=None):
    """What the code tells in a def f of the names m and n."""
    program = ({**(functions or {}), "f": (("m", "n"), tuple(params), code)}, [])
    return BareRun(program).done("f", NUMBERS if numbers is None else numbers, flats)


class WordsTest(unittest.TestCase):
    """Each word of bare code by itself."""

    def assert_told(self, flat, code, steps=0, numbers=None, functions=None, **known):
        self.assertEqual(bare(code, known, list(known.values()), numbers, functions), (flat, steps))

    def test_number_name_size(self):
        self.assert_told([7], number(7))
        self.assert_told([4, 5, 6], G, g=[4, 5, 6])
        self.assert_told([], G, g=[])
        self.assert_told([3], size(N))
        self.assert_told([6], size(MN))
        self.assert_told([0], size(()))
        self.assert_told([9 + 2 * 2 * 9], size((((), 9), ((("m", 1), ("n", 2)), 2))))
        self.assert_told([9], size((((), 9), ((("m", 1), ("n", 2)), 2))), numbers={"m": 5})
        self.assert_told([0], size(N), numbers={})

    def test_lay(self):
        self.assert_told([], ("lay", ()))
        self.assert_told([1], ("lay", (A,)))
        self.assert_told([4, 5, 1, 6], ("lay", (G, A, H)), g=[4, 5], h=[6])
        self.assert_told([4, 5, 4, 5], ("lay", (G, ("lay", ()), G)), g=[4, 5])

    def test_part(self):
        flat = [0, 1, 2, 3, 4, 5, 6, 7]
        self.assert_told([0, 1], ("part", (), M, G), g=flat)
        self.assert_told([2, 3, 4], ("part", M, N, G), g=flat)
        self.assert_told([6, 7], ("part", MN, M, G), g=flat)
        self.assert_told([], ("part", MN, (), G), g=flat)
        self.assert_told([], ("part", (), (), G), g=[])
        self.assert_told(flat, ("part", (), (((), 2), MN[0]), G), g=flat)

    def test_weave(self):
        self.assert_told([1, 4, 2, 5, 3, 6], ("weave", N, ONE, ONE, G, H), g=[1, 2, 3], h=[4, 5, 6])
        self.assert_told([1, 2, 7, 3, 4, 8], ("weave", M, whole(2), ONE, G, H), g=[1, 2, 3, 4], h=[7, 8])
        self.assert_told([7, 1, 2, 8, 3, 4], ("weave", M, ONE, whole(2), G, H), g=[7, 8], h=[1, 2, 3, 4])
        self.assert_told([1, 2, 3], ("weave", N, ONE, (), G, H), g=[1, 2, 3], h=[])
        self.assert_told([1, 2, 3], ("weave", N, (), ONE, G, H), g=[], h=[1, 2, 3])
        self.assert_told([], ("weave", (), ONE, ONE, G, H), g=[], h=[])
        self.assert_told([], ("weave", N, (), (), G, H), g=[], h=[])

    def test_turn(self):
        flat = [1, 2, 3, 4, 5, 6]
        self.assert_told([1, 4, 2, 5, 3, 6], ("turn", M, N, ONE, G), g=flat)
        self.assert_told([1, 3, 5, 2, 4, 6], ("turn", N, M, ONE, G), g=flat)
        self.assert_told([1, 2, 5, 6, 3, 4, 7, 8], ("turn", M, whole(2), M, G), g=flat + [7, 8])
        self.assert_told(flat, ("turn", ONE, MN, ONE, G), g=flat)
        self.assert_told(flat, ("turn", MN, ONE, ONE, G), g=flat)
        for rows, things, wide in [((), N, ONE), (N, (), ONE), ((), (), ONE), (M, N, ())]:
            self.assert_told([], ("turn", rows, things, wide, G), g=[])

    def test_pick(self):
        flat = [1, 2, 3, 4, 5, 6]
        self.assert_told([1], ("pick", ONE, G, P), g=flat, p=[0])
        self.assert_told([6], ("pick", ONE, G, P), g=flat, p=[5])
        self.assert_told([3, 4], ("pick", M, G, P), g=flat, p=[1])
        self.assert_told([4, 5, 6], ("pick", N, G, P), g=flat, p=[1])
        self.assert_told([], ("pick", (), G, P), g=[], p=[4])

    def test_mirror(self):
        for place, flat in [(0, [2]), (1, [1]), (2, [0])]:
            self.assert_told(flat, ("mirror", N, P), p=[place])

    def test_reckon_and_if(self):
        most = 10 ** 12 - 1
        for word, one, other, told in [("plus", most, 1, 0), ("plus", 2, 3, 5), ("minus", 2, 3, most), ("minus", 3, 2, 1),
                                       ("times", most, most, 1), ("times", 10 ** 6, 10 ** 6, 0), ("less", 2, 3, 1),
                                       ("less", 3, 3, 0), ("less", 4, 3, 0), ("same", 3, 3, 1), ("same", 3, 2, 0)]:
            self.assert_told([told], ("reckon", word, number(one), number(other)))
        self.assert_told([4, 5], ("if", A, G, H), g=[4, 5], h=[6])
        self.assert_told([6], ("if", number(0), G, H), g=[4, 5], h=[6])

    def test_let_fork_when(self):
        self.assert_told([4, 5, 4, 5], ("let", "x", G, ("lay", (X, X))), g=[4, 5])
        self.assert_told([4, 6], ("let", "x", A, ("let", "x", G, X)), g=[4, 6])
        fork = ("fork", M, P, "x", ("lay", (number(10), X)), ("lay", (number(20), X)))
        for place, flat in [(0, [10, 0]), (1, [10, 1]), (2, [20, 0]), (4, [20, 2])]:
            self.assert_told(flat, fork, p=[place])
        when = ("when", P, M, "x", ("lay", (number(10), X)), X)
        for place, flat in [(0, [10, 0]), (1, [10, 1]), (2, [7]), (4, [7])]:
            self.assert_told(flat, when, p=[place], x=[7])

    def test_loop_and_fold(self):
        self.assert_told([0, 9, 1, 9, 2, 9], ("loop", "i", N, ("lay", (name("i"), number(9)))), 3)
        self.assert_told([], ("loop", "i", (), A))
        self.assert_told([], ("loop", "i", N, ("lay", ())), 3)
        digits = ("reckon", "plus", ("reckon", "times", name("s"), number(10)), name("i"))
        self.assert_told([4012], ("fold", "i", N, "s", number(4), digits), 3)
        self.assert_told([8, 9], ("fold", "i", (), "s", G, H), g=[8, 9], h=[1, 1])

    def test_calls_go_by_their_sums(self):
        g = (("n", "m"), ("a",), ("lay", (size(N), size(M), size(MN), name("a"))))
        self.assert_told([2, 3, 6, 7], ("call", "g", (M, N), (number(7),)), 1, functions={"g": g})
        self.assert_told([3, 2, 6, 7], ("call", "g", (N, M), (number(7),)), 1, functions={"g": g})
        self.assert_told([6, 0, 0, 7, 3], ("lay", (("call", "g", (MN, ()), (number(7),)), size(N))), 1, functions={"g": g})
        h = ((), (), B)
        self.assert_told([2, 2], ("lay", (("call", "h", (), ()), ("call", "h", (), ()))), 2, functions={"h": h})


class CasesTest(unittest.TestCase):

    def test_what_each_expression_comes_to(self):
        for case in CASES:
            run = BareRun(made(Found(case.program())))
            told = run.done("f", case.numbers, [laid(arg) for arg in case.args])
            self.assertEqual(told, (laid(case.value), case.steps), case.e)
            self.assertEqual([told.__class__, told[0].__class__], [tuple, list])

    def test_the_side_that_is_not_gone_to_would_be_refused(self):
        case = Case(DEAR, None, 0, [LONG])
        with self.assertRaises(TooGreat):
            BareRun(made(Found(case.program()))).done("f", case.numbers, [laid(arg) for arg in case.args])


class BareBoundsTest(Bounds, unittest.TestCase):

    def done(self, found, numbers, args):
        return BareRun(made(found)).done("f", numbers, [laid(arg) for arg in args])


class BareCodeBoundsTest(unittest.TestCase):
    """The bounds on bare code by itself."""

    def assert_refused(self, error, code, flats=(), functions=None):
        with self.assertRaises(IndexwiseError) as taken:
            bare(code, ["g", "h"][:len(flats)], list(flats), {}, functions)
        self.assertEqual((taken.exception.__class__, taken.exception.place), (error, None))

    def test_lists_of_a_thousand_and_one_more(self):
        flat = list(range(1000))
        self.assertEqual(bare(("lay", (G,)), ["g"], [flat], {}), (flat, 0))
        self.assert_refused(TooGreat, ("lay", (G, A)), [flat])
        self.assertEqual(bare(("weave", whole(500), ONE, ONE, G, G), ["g"], [[3] * 500], {}), ([3] * 1000, 0))
        self.assert_refused(TooGreat, ("weave", whole(1), whole(1000), ONE, G, H), [flat, [1]])
        self.assertEqual(len(bare(("loop", "i", whole(1000), A), [], [], {})[0]), 1000)
        self.assertEqual(len(bare(("loop", "i", whole(500), ("lay", (A, B))), [], [], {})[0]), 1000)
        self.assert_refused(TooGreat, ("loop", "i", whole(501), ("lay", (A, B))))
        self.assert_refused(TooGreat, ("part", (), (), ("lay", (G, A))), [flat])
        # 7 times 143: just one too many.
        self.assertEqual(len(bare(("loop", "i", whole(6), G), ["g"], [flat[:143]], {})[0]), 858)
        self.assert_refused(TooGreat, ("loop", "i", whole(7), G), [flat[:143]])

    def test_names_bound_to_a_hundred_and_one_more(self):
        functions = {"g": (("n",), (), size(N))}
        self.assertEqual(bare(("call", "g", (whole(100),), ()), [], [], {}, functions), ([100], 1))
        self.assert_refused(TooGreat, ("call", "g", (whole(101),), ()), functions=functions)
        rounds = ("fold", "i", whole(1000), "s", A, name("s"))
        self.assert_refused(TooGreat, ("lay", (rounds, ("call", "g", (whole(101),), ()))), functions=functions)
        self.assert_refused(TooLong, ("lay", (rounds, ("call", "g", (whole(100),), ()))), functions=functions)


class SeveralTest(unittest.TestCase):

    def refused(self, error, ask):
        with self.assertRaises(IndexwiseError) as taken:
            ask()
        self.assertEqual((taken.exception.__class__, taken.exception.place), (error, None))

    def test_each_is_counted_by_itself(self):
        run = BareRun(made(Found(SEVERAL)))
        for again in range(2):
            self.assertEqual(run.asked(0), ([0], 990))
            self.assertEqual(run.done("g", {"n": 3}, [[1, 2, 3]]), ([1, 2, 3, 0], 4))
            self.refused(TooLong, lambda: run.asked(1))
            self.assertEqual(run.asked(2), ([8, 0], 99))
            self.refused(TooLong, lambda: run.done("f", {"n": 51}, [[0] * 51]))
            self.assertEqual(run.done("f", {"n": 50}, [[0] * 50]), ([0], 1000))
            self.refused(TooGreat, lambda: run.asked(3))
            self.refused(NoName, lambda: run.asked(4))

    def test_no_name(self):
        run = BareRun(made(Found(SEVERAL)))
        for k in [-1, 4, 5, -10 ** 50, 10 ** 50]:
            self.refused(NoName, lambda: run.asked(k))
        for f in ["h", "", "F", "ask", "n"]:
            self.refused(NoName, lambda: run.done(f, {"n": 2}, [[0, 0]]))
        self.refused(NoName, lambda: BareRun(({}, [])).asked(0))

    def test_a_runner_stands_under_run(self):
        self.assertEqual(BareRun.__bases__, (Run,))


class OwnTest(unittest.TestCase):
    """Point 2."""

    def setUp(self):
        self.program = ({"f": (("n",), ("g",), G), "h": ((), (), B)}, [("lay", (A, B)), ("let", "x", ("lay", (A, A)), X)])

    def test_what_is_handed_in_stays(self):
        run = BareRun(self.program)
        numbers, flats = {"n": 2}, [[4, 5]]
        told = run.done("f", numbers, flats)
        self.assertEqual((told, numbers, flats), (([4, 5], 0), {"n": 2}, [[4, 5]]))
        told[0].append(6)
        self.assertEqual(flats, [[4, 5]])

    def test_a_told_list_that_is_changed_changes_nothing(self):
        run = BareRun(self.program)
        for k, flat in [(0, [1, 2]), (1, [1, 1])]:
            told = run.asked(k)[0]
            self.assertEqual(told, flat)
            told.clear()
            self.assertEqual(run.asked(k)[0], flat)

    def test_what_is_done_to_the_flats_later(self):
        run, flats = BareRun(self.program), [[4, 5]]
        told = run.done("f", {}, flats)[0]
        flats[0].append(6)
        self.assertEqual(told, [4, 5])

    def test_what_is_done_to_the_made_program_later(self):
        run = BareRun(self.program)
        self.program[0].clear()
        self.program[1].clear()
        self.assertEqual([run.done("h", {}, []), run.asked(0)], [([2], 0), ([1, 2], 0)])
        self.program[0]["k"] = ((), (), A)
        self.program[1].extend([A, A, A])
        with self.assertRaises(NoName):
            run.done("k", {}, [])
        with self.assertRaises(NoName):
            run.asked(2)

    def test_the_made_program_stays(self):
        program = made(Found(SEVERAL))
        run = BareRun(program)
        run.asked(0)
        run.done("g", {"n": 1}, [[5]])
        self.assertEqual(program, made(Found(SEVERAL)))


if __name__ == "__main__":
    unittest.main()
