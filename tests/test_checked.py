import inspect
import unittest

from indexwise import errors
from indexwise.found import Found
from indexwise.rows import checked
from small import A, B, M, N, NOUGHT, THREE, WHOLE, WORDS, name, pair, place, row, size
from strangers import Prickly, nested, strangers

ASK = ("ask", A)
K = size(k=1)


def a_def(f="f", names=(), params=(), e=A):
    return ("def", f, names, params, e)


def of_kinds(names, *kinds):
    """A def with these names of lengths and params of these kinds."""
    return a_def("f", tuple(names.split()), tuple((x, kind) for x, kind in zip("abcd", kinds)))


class CheckedTest(unittest.TestCase):

    def assert_let(self, program):
        self.assertEqual(checked(program), program)

    def assert_refused(self, error, place, program):
        for refuse in [checked, Found]:
            with self.assertRaises(errors.IndexwiseError) as taken:
                refuse(program)
            # Not shown where it fails: some of these are far too great to be written.
            self.assertIs(taken.exception.__class__, error)
            self.assertEqual(taken.exception.place, place)


class ProgramTest(CheckedTest):

    def assert_no_row(self, thing):
        self.assert_refused(errors.NoProgram, (0, 0), [thing])
        self.assert_refused(errors.NoProgram, (2, 0), [ASK, a_def(), thing, ASK, thing])

    def test_none_to_twelve_rows(self):
        for count in range(13):
            self.assert_let([ASK] * count)
        self.assert_let([a_def(f) for f in "abcdefghijkl"])

    def test_thirteen_rows(self):
        for count in [13, 14, 1000]:
            self.assert_refused(errors.NoProgram, (0, 0), [ASK] * count)
        self.assert_refused(errors.NoProgram, (0, 0), [ASK] * 5 + [None] * 8)

    def test_no_list(self):
        for thing in strangers() + [(), (ASK,), {0: ASK}, ASK, A, "ask", iter([ASK]), None]:
            if not isinstance(thing, list) or len(thing) > 0:
                self.assert_refused(errors.NoProgram, (0, 0), thing)

    def test_the_list_is_new_and_what_was_handed_in_stays(self):
        program = [a_def(), ASK]
        told = checked(program)
        self.assertIsNot(told, program)
        told.append(ASK)
        self.assertEqual(program, [a_def(), ASK])
        self.assertEqual(checked(program), [a_def(), ASK])
        self.assertEqual(checked([]), [])

    def test_rows(self):
        self.assert_let([a_def("f", (), (), A), a_def("g", ("n",), (("a", row(N)),), name("a")), ("ask", B)])
        self.assert_let([a_def("f", ("k", "m", "n", "j"), tuple((x, row(size(**{x: 1}))) for x in "kmnj"))])
        self.assert_let([a_def("abcdefgh", ("abcdefgh",), (("abcdefgh", row(size(abcdefgh=1))),))])
        # What is asked of names and kinds comes later.
        self.assert_let([("ask", name("x")), ("ask", ("call", "f", (A,))), a_def(e=("get", A, B)), ("ask", ("length", N))])

    def test_rows_that_are_none(self):
        for thing in strangers() + ["ask", A, [*ASK], ["def", "f", (), (), A], ("ask",), ("ask", A, A), ("Ask", A),
                                    ("ask", 0), ("ask", (A,)), ("ask", "x"), ("def",), ("def", A), ("ask", "f", (), (), A),
                                    ("def", "f", (), A), ("def", "f", (), (), A, A), ("asks", A), (Prickly(), A), (0, A),
                                    ("define", "f", (), (), A), (Prickly(), "f", (), (), A), {"ask": A}]:
            self.assert_no_row(thing)

    def test_anything_in_the_place_of_a_thing(self):
        for thing in strangers():
            self.assert_no_row(("ask", thing))
            self.assert_no_row(a_def(e=thing))
            self.assert_no_row(a_def(f=thing))
            self.assert_no_row(a_def(names=(thing,)))
            self.assert_no_row(a_def(params=(thing,)))
            self.assert_no_row(a_def(params=((thing, WHOLE),)))
            self.assert_no_row(a_def(params=(("a", thing),)))
            if not isinstance(thing, tuple) or len(thing) > 0:
                self.assert_no_row(a_def(names=thing))
                self.assert_no_row(a_def(params=thing))

    def test_a_defs_f(self):
        for f in WORDS + ["", "abcdefghi", "F", "f1", "f g"]:
            self.assert_no_row(a_def(f))
        for f in ["def", "ask", "whole", "n", "abcdefgh"]:
            self.assert_let([a_def(f)])

    def test_a_defs_names(self):
        for names in [["n"], "n", ("N",), ("n", ""), ("n", "abcdefghi"), ("n", 1), (("n",),), ("a", "b", "c", "d", "e"),
                      (N,), {"n": 1}, None]:
            self.assert_no_row(a_def("f", names, (("a", row(N)),)))

    def test_a_defs_params(self):
        for params in [["a", WHOLE], [("a", WHOLE)], (["a", WHOLE],), ("a", WHOLE), (("a",),), (("a", WHOLE, WHOLE),),
                       ((WHOLE, "a"),), (("A", WHOLE),), (("", WHOLE),), (("a", "whole"),), (("a", ["whole"]),),
                       (("a", N),), (("a", A),), tuple((x, WHOLE) for x in "abcde"), (("a", row(size(100))),),
                       (("a", nested(WHOLE, lambda thing: row(THREE, thing), 12)),), {"a": WHOLE}, None]:
            self.assert_no_row(a_def("f", (), params))
        self.assert_let([a_def("f", (), tuple((x, WHOLE) for x in "abcd"))])
        self.assert_let([a_def("f", (), (("a", nested(WHOLE, lambda thing: row(size(99), thing), 11)),))])

    def test_expressions_beyond_the_bounds(self):
        deep = nested(A, lambda thing: ("first", thing), 8)
        for e in [deep, ("number", 10 ** 12), ("length", size(100)), ("row", (A,) * 5), nested(A, lambda e: ("pair", e, e), 6)]:
            self.assert_no_row(("ask", e))
            self.assert_no_row(a_def(e=e))
        self.assert_let([("ask", deep[1]), a_def(e=deep[1])])

    def test_the_first_row_that_is_none(self):
        self.assert_refused(errors.NoProgram, (1, 0), [ASK, None, ASK, None])
        self.assert_refused(errors.NoProgram, (11, 0), [ASK] * 11 + [("ask",)])
        self.assert_refused(errors.NoProgram, (0, 0), [Prickly()] * 12)


class TwiceTest(CheckedTest):

    def test_an_f_twice(self):
        self.assert_refused(errors.Twice, (1, 0), [a_def("f"), a_def("f")])
        self.assert_refused(errors.Twice, (3, 0), [a_def("f"), a_def("g"), ASK, a_def("f", (), (("a", WHOLE),), B)])
        self.assert_refused(errors.Twice, (2, 0), [a_def("f"), a_def("g"), a_def("g"), a_def("f")])
        self.assert_let([a_def("f"), a_def("ff"), a_def("g")])

    def test_names_twice(self):
        params = (("a", row(N)),)
        for names in [("n", "n"), ("n", "m", "n"), ("m", "n", "n"), ("k", "m", "n", "m")]:
            self.assert_refused(errors.Twice, (1, 0), [ASK, a_def("f", names, params)])

    def test_params_twice(self):
        for xs in ["aa", "aba", "baa", "abcb"]:
            self.assert_refused(errors.Twice, (1, 0), [ASK, a_def("f", (), tuple((x, WHOLE) for x in xs))])
        self.assert_refused(errors.Twice, (0, 0), [a_def("f", (), (("a", WHOLE), ("a", row(THREE))))])

    def test_one_text_may_be_all_three(self):
        self.assert_let([a_def("n", ("n",), (("n", row(N)),), ("call", "n", (name("n"),)))])
        self.assert_let([a_def("f", ("a",), (("f", row(size(a=1))), ("g", WHOLE))), a_def("a"), a_def("g")])

    def test_the_first_row(self):
        double = a_def("g", (), (("a", WHOLE), ("a", WHOLE)))
        self.assert_refused(errors.Twice, (1, 0), [a_def("f"), double, a_def("f")])
        self.assert_refused(errors.Twice, (1, 0), [a_def("f"), a_def("f"), double])

    def test_ahead_of_what_is_found_later(self):
        self.assert_refused(errors.Twice, (2, 0), [("ask", name("x")), a_def("f"), a_def("f")])


class BindTest(CheckedTest):

    def assert_bound(self, *defined):
        self.assert_let([of_kinds(*defined)])

    def assert_not_bound(self, *defined):
        self.assert_refused(errors.NoBind, (0, 0), [of_kinds(*defined)])
        self.assert_refused(errors.NoBind, (2, 0), [ASK, a_def("g"), of_kinds(*defined), a_def("h", ("n",))])

    def test_the_documents_own(self):
        self.assert_bound("m n", row(N), row(size(m=1, n=1)), row(size(3, n=2)))
        self.assert_bound("n m", row(N, row(size(m=1, n=1), row(size(3, n=2)))))
        self.assert_not_bound("m n", row(size(m=1, n=1)), row(N), row(size(3, n=2)))
        self.assert_not_bound("m n", row(size(3, n=2)), row(N), row(size(m=1, n=1)))

    def test_none_and_numbers(self):
        self.assert_bound("")
        self.assert_bound("", WHOLE, place(THREE), row(THREE), row(NOUGHT, pair(WHOLE, place(size(5)))))
        self.assert_bound("n", row(size(7, n=1)))

    def test_a_name_that_is_never_bound(self):
        self.assert_not_bound("n")
        self.assert_not_bound("n", WHOLE, row(THREE))
        self.assert_not_bound("m n", row(N))
        self.assert_not_bound("m n", row(M), row(M, row(size(m=2))))
        self.assert_not_bound("k m n x", row(K), row(M), row(N), WHOLE)

    def test_a_name_that_is_not_the_defs(self):
        self.assert_not_bound("", row(N))
        self.assert_not_bound("", place(N))
        self.assert_not_bound("n", row(N), row(M))
        self.assert_not_bound("n", row(N), place(M))
        self.assert_not_bound("n", row(N), row(size(m=1, n=1)))
        self.assert_not_bound("a b", row(size(a=1)), row(size(f=1)))

    def test_a_place(self):
        self.assert_bound("n", row(N), place(N), place(size(3, n=2)))
        self.assert_bound("n", row(N, place(N)))
        self.assert_bound("n", pair(row(N), place(N)))
        self.assert_not_bound("n", place(N))
        self.assert_not_bound("n", place(N), row(N))
        self.assert_not_bound("n", pair(place(N), row(N)))
        self.assert_not_bound("m n", row(N, place(M)), row(M))
        self.assert_not_bound("m n", row(N), place(size(m=1, n=1)), row(M))

    def test_with_times_two(self):
        self.assert_not_bound("n", row(size(n=2)))
        self.assert_not_bound("n", row(size(n=2)), row(N))
        self.assert_not_bound("m n", row(N), row(size(m=2, n=1)), row(M))
        self.assert_bound("m n", row(N), row(size(m=1, n=2)), row(size(m=2)))

    def test_two_at_once(self):
        self.assert_not_bound("m n", row(size(m=1, n=1)))
        self.assert_not_bound("m n", row(size(m=1, n=1)), row(N), row(M))
        self.assert_not_bound("k m n", row(K), row(size(k=1, m=1, n=1)), row(M), row(N))
        self.assert_bound("k m n", row(K), row(M), row(size(k=1, m=1, n=1)))

    def test_read_from_the_left(self):
        self.assert_bound("m n", pair(row(N), row(size(m=1, n=1))))
        self.assert_not_bound("m n", pair(row(size(m=1, n=1)), row(N)))
        self.assert_bound("m n", pair(row(THREE, row(N)), row(size(m=1, n=2))))
        self.assert_bound("m n", row(N, pair(row(size(m=1, n=1)), place(M))), place(M))

    def test_a_rows_length_ahead_of_its_thing(self):
        self.assert_bound("m n", row(N, row(size(m=1, n=2))))
        self.assert_not_bound("m n", row(size(m=1, n=1), row(N)))
        self.assert_not_bound("n", row(size(n=2), row(N)))

    def test_the_first_row(self):
        bad = of_kinds("n", place(N))
        self.assert_refused(errors.NoBind, (1, 0), [a_def("g"), bad, a_def("h", ("n",))])

    def test_ahead_of_what_is_found_later(self):
        self.assert_refused(errors.NoBind, (1, 0), [("ask", name("x")), of_kinds("n", place(N))])


class OrderTest(CheckedTest):

    def test_no_program_then_twice_then_no_bind(self):
        unbound = a_def("u", ("n",))
        self.assert_refused(errors.NoProgram, (3, 0), [unbound, a_def("f"), a_def("f"), None])
        self.assert_refused(errors.NoProgram, (0, 0), [None, a_def("f"), a_def("f"), unbound])
        self.assert_refused(errors.NoProgram, (2, 0), [a_def("f"), a_def("f"), 5, unbound])
        self.assert_refused(errors.Twice, (2, 0), [unbound, a_def("f"), a_def("f")])
        self.assert_refused(errors.Twice, (1, 0), [a_def("f"), a_def("f"), unbound])
        self.assert_refused(errors.Twice, (1, 0), [unbound, unbound])
        self.assert_refused(errors.Twice, (0, 0), [a_def("u", ("n", "n"))])
        self.assert_refused(errors.NoProgram, (0, 0), [unbound] * 13)


class ArgumentsTest(unittest.TestCase):

    def test_the_arguments_bear_the_told_names(self):
        self.assertEqual(list(inspect.signature(checked).parameters), ["thing"])


if __name__ == "__main__":
    unittest.main()
