import inspect
import unittest

from defining import DefTest, defined
from indexwise.errors import NoName, NoProgram
from indexwise.found import Found
from small import A, B, C, M, N, NOUGHT, THREE, WHOLE, ZERO, name, number, pair, place, row, size

U, V, X, Y = name("u"), name("v"), name("x"), name("y")
PARAM, OTHER = name("a"), name("b")


class WholesTest(DefTest):

    def test_number_and_length(self):
        for e in [number(0), number(10 ** 12 - 1), ("length", NOUGHT), ("length", size(99, m=99, n=99))]:
            self.assert_kind(WHOLE, e)

    def test_reckon(self):
        for word in ["plus", "minus", "times", "less", "same"]:
            self.assert_kinds([WHOLE, WHOLE, WHOLE], ("reckon", word, A, ("length", N)))

    def test_if(self):
        self.assert_kinds([WHOLE, WHOLE, WHOLE, WHOLE], ("if", A, B, C))
        self.assert_kinds([row(N), WHOLE, row(N), row(N)], ("if", A, V, PARAM), row(N))
        self.assert_kind(pair(row(N), place(M)), ("if", A, PARAM, OTHER), pair(row(N), place(M)), pair(row(N), place(M)))

    def test_name(self):
        self.assert_kind(row(M), U)
        self.assert_kind(row(N), V)
        self.assert_kind(pair(place(N), row(size(3, m=2), WHOLE)), PARAM, pair(place(N), row(size(3, m=2), WHOLE)))

    def test_let(self):
        self.assert_kinds([row(N), row(N), row(N)], ("let", "x", V, X))
        self.assert_kinds([WHOLE, row(N), WHOLE], ("let", "x", V, A))


class PairsAndRowsTest(DefTest):

    def test_pair(self):
        self.assert_kinds([pair(row(M), WHOLE), row(M), WHOLE], ("pair", U, A))
        self.assert_kinds([pair(WHOLE, row(M)), WHOLE, row(M)], ("pair", A, U))

    def test_first_and_second(self):
        self.assert_kinds([row(M), pair(row(M), row(N)), row(M), row(N)], ("first", ("pair", U, V)))
        self.assert_kinds([row(N), pair(row(M), row(N)), row(M), row(N)], ("second", ("pair", U, V)))

    def test_row(self):
        for count in range(1, 5):
            self.assert_kinds([row(size(count), row(N))] + [row(N)] * count, ("row", (V,) * count))

    def test_none(self):
        for kind in [WHOLE, place(N), row(size(m=1, n=2)), pair(WHOLE, WHOLE)]:
            self.assert_kinds([row(NOUGHT, kind)], ("none", kind))

    def test_join(self):
        self.assert_kinds([row(size(m=1, n=1)), row(M), row(N)], ("join", U, V))
        self.assert_kinds([row(size(n=2)), row(N), row(N)], ("join", V, V))
        self.assert_kind(row(size(7, m=2, n=1), place(N)), ("join", PARAM, OTHER), row(size(3, m=1), place(N)),
                         row(size(4, m=1, n=1), place(N)))

    def test_take(self):
        self.assert_kinds([row(N, place(M)), row(size(2, n=3), place(M))], ("take", N, PARAM), row(size(2, n=3), place(M)))
        self.assert_kind(row(NOUGHT), ("take", NOUGHT, U))
        self.assert_kind(row(M), ("take", M, U))
        self.assert_kind(row(size(2, n=3)), ("take", size(2, n=3), PARAM), row(size(2, m=1, n=3)))

    def test_drop(self):
        self.assert_kinds([row(size(2, n=2), place(M)), row(size(2, n=3), place(M))], ("drop", N, PARAM),
                          row(size(2, n=3), place(M)))
        self.assert_kind(row(M), ("drop", NOUGHT, U))
        self.assert_kind(row(NOUGHT), ("drop", M, U))
        self.assert_kind(row(M), ("drop", size(2, n=3), PARAM), row(size(2, m=1, n=3)))

    def test_zip(self):
        self.assert_kinds([row(N, pair(WHOLE, place(M))), row(N), row(N, place(M))], ("zip", V, PARAM), row(N, place(M)))
        self.assert_kind(row(N, pair(place(M), WHOLE)), ("zip", PARAM, V), row(N, place(M)))

    def test_turn(self):
        self.assert_kinds([row(M, row(N, place(THREE))), row(N, row(M, place(THREE)))], ("turn", PARAM),
                          row(N, row(M, place(THREE))))
        self.assert_kind(row(NOUGHT, row(N, row(M))), ("turn", PARAM), row(N, row(NOUGHT, row(M))))

    def test_get(self):
        self.assert_kinds([WHOLE, row(N), place(N)], ("get", V, PARAM), place(N))
        self.assert_kind(row(M), ("get", PARAM, OTHER), row(size(3, n=2), row(M)), place(size(2, n=1)))
        self.assert_kind(WHOLE, ("get", V, PARAM), place(NOUGHT))


class PlacesTest(DefTest):

    def test_place(self):
        self.assert_kinds([place(size(1))], ("place", NOUGHT, size(1)))
        self.assert_kind(place(size(1, n=1)), ("place", N, size(1, n=1)))
        self.assert_kind(place(size(5, m=2, n=2)), ("place", size(3, n=1), size(5, m=2, n=2)))
        self.assert_kind(place(size(99)), ("place", size(98), size(99)))

    def test_value(self):
        self.assert_kinds([WHOLE, place(N)], ("value", PARAM), place(N))

    def test_up(self):
        self.assert_kinds([place(size(3, m=1, n=2)), place(size(1, n=1))], ("up", size(2, m=1, n=1), PARAM),
                          place(size(1, n=1)))
        self.assert_kind(place(N), ("up", NOUGHT, PARAM), place(N))

    def test_wide(self):
        self.assert_kinds([place(size(2, m=1, n=1)), place(size(1, n=1))], ("wide", size(2, m=1, n=1), PARAM),
                          place(size(1, n=1)))
        self.assert_kind(place(N), ("wide", N, PARAM), place(N))

    def test_mirror(self):
        self.assert_kinds([place(size(1, n=1)), place(size(1, n=1))], ("mirror", PARAM), place(size(1, n=1)))

    def test_fork(self):
        e = ("fork", N, PARAM, "x", ("pair", A, ("value", X)), ("pair", B, ("value", X)))
        both = [pair(WHOLE, WHOLE), WHOLE, WHOLE]
        self.assert_kinds(both[:1] + [place(size(3, m=1, n=2))] + both + [place(N)] + both + [place(size(3, m=1, n=1))],
                          e, place(size(3, m=1, n=2)))
        self.assert_kind(place(size(n=1)), ("fork", N, PARAM, "x", X, X), place(size(n=2)))
        self.assert_kind(WHOLE, ("fork", NOUGHT, PARAM, "x", A, B), place(N))

    def test_when(self):
        e = ("when", A, size(1, m=1), "x", ("value", X), B)
        self.assert_kinds([WHOLE, WHOLE, WHOLE, place(size(1, m=1)), WHOLE], e)
        self.assert_kind(place(N), ("when", A, N, "x", X, PARAM), place(N))

    def test_loop(self):
        self.assert_kinds([row(N, place(N)), place(N)], ("loop", "x", N, X))
        self.assert_kind(row(size(2, m=1), row(N)), ("loop", "x", size(2, m=1), V))
        self.assert_kind(row(NOUGHT, place(NOUGHT)), ("loop", "x", NOUGHT, X))
        self.assert_kind(row(N, row(M, pair(place(N), place(M)))), ("loop", "x", N, ("loop", "y", M, ("pair", X, Y))))

    def test_fold(self):
        e = ("fold", "x", N, "y", A, ("reckon", "plus", Y, ("get", V, X)))
        self.assert_kinds([WHOLE, WHOLE, WHOLE, WHOLE, WHOLE, row(N), place(N)], e)
        self.assert_kinds([row(M), row(M), row(M)], ("fold", "x", N, "y", U, Y))
        self.assert_kind(pair(row(M), row(N)), ("fold", "x", NOUGHT, "y", ("pair", U, V), Y))


class ScopeTest(DefTest):

    def test_an_inner_one_hides_an_outer_one(self):
        self.assert_kinds([WHOLE, row(M), WHOLE, WHOLE, WHOLE], ("let", "x", U, ("let", "x", A, X)))
        self.assert_kind(row(M, row(N, place(N))), ("loop", "x", M, ("loop", "x", N, X)))
        self.assert_kind(row(N, place(N)), ("loop", "u", N, name("u")))
        self.assert_kind(WHOLE, ("fold", "u", N, "v", A, ("let", "w", ("value", name("u")), name("v"))))
        self.assert_kind(place(N), ("fork", N, PARAM, "u", name("u"), name("u")), place(size(n=2)))
        self.assert_kind(WHOLE, ("when", A, N, "u", ("value", name("u")), A))

    def test_the_outer_one_is_there_again_behind_it(self):
        self.assert_kinds([pair(WHOLE, row(M)), WHOLE, WHOLE, WHOLE, row(M)], ("pair", ("let", "u", A, name("u")), U))
        self.assert_kind(pair(row(N, place(N)), row(M)), ("pair", ("loop", "u", N, U), U))

    def test_the_own_part_of_a_let_sees_the_outer_one(self):
        self.assert_kind(pair(row(M), row(M)), ("let", "u", ("pair", U, U), U))
        self.assert_refused(NoName, 2, ("let", "x", X, A))

    def test_the_second_part_of_a_when_sees_the_outer_one(self):
        self.assert_kinds([WHOLE, row(N), WHOLE, WHOLE, WHOLE, place(M), WHOLE, row(N), place(N)],
                          ("let", "x", V, ("when", A, M, "x", ("value", X), ("get", X, PARAM))), place(N))
        self.assert_kind(row(M), ("when", A, N, "u", OTHER, U), WHOLE, row(M))
        self.assert_refused(NoName, 4, ("when", A, N, "x", B, X))
        self.assert_refused(NoName, 2, ("when", X, N, "x", B, C))

    def test_the_first_part_of_a_fold_sees_the_outer_ones(self):
        self.assert_kind(row(M), ("fold", "u", N, "y", U, Y))
        self.assert_kind(row(M), ("fold", "x", N, "u", U, U))
        self.assert_refused(NoName, 2, ("fold", "x", N, "y", X, Y))
        self.assert_refused(NoName, 2, ("fold", "x", N, "y", Y, Y))

    def test_the_first_part_of_a_fork_sees_the_outer_one(self):
        self.assert_kind(place(N), ("let", "x", PARAM, ("fork", N, X, "x", X, X)), place(size(n=2)))
        self.assert_refused(NoName, 2, ("fork", N, X, "x", A, B))

    def test_not_there_beside_it(self):
        self.assert_refused(NoName, 5, ("pair", ("loop", "x", N, X), ("value", X)))
        self.assert_refused(NoName, 5, ("pair", ("let", "x", A, X), X))

    def test_one_text_may_be_all_three(self):
        program = [("def", "n", ("n",), (("n", row(N)),), ("let", "m", ("length", N), name("n"))),
                   ("ask", ("let", "n", ("row", (A, B)), ("call", "n", (name("n"),))))]
        found = Found(program)
        self.assertEqual(found.told("n"), (("n",), (row(N),), row(N)))
        self.assertEqual(found.kind_at(1, 1), row(size(2)))

    def test_values_of_one_row_are_not_there_in_another(self):
        self.assertEqual(self.refusal([defined(("let", "x", A, X)), ("ask", X)]).place, (1, 1))
        self.assertEqual(self.refusal([defined(A), ("ask", U)]).place, (1, 1))


class CallTest(DefTest):

    def test_what_the_call_binds_is_put_in(self):
        joined = ("def", "g", ("n", "m"), (("a", row(N)), ("b", row(M))), ("join", name("a"), name("b")))
        found = Found([joined, defined(("call", "g", (("join", U, V), ("row", (A, B)))))])
        self.assertEqual(found.told("g"), (("n", "m"), (row(N), row(M)), row(size(m=1, n=1))))
        self.assertEqual(found.binds_at(1, 1), (size(m=1, n=1), size(2)))
        self.assertEqual(found.kind_at(1, 1), row(size(2, m=1, n=1)))
        self.assertEqual(found.told("f")[2], row(size(2, m=1, n=1)))

    def test_at_once(self):
        swapped = ("def", "g", ("n", "m"), (("a", row(N, row(M))),), ("turn", name("a")))
        found = Found([swapped, defined(("call", "g", (PARAM,)), row(M, row(size(1, n=1))))])
        self.assertEqual(found.binds_at(1, 1), (M, size(1, n=1)))
        self.assertEqual(found.kind_at(1, 1), row(size(1, n=1), row(M)))

    def test_each_call_by_itself(self):
        program = [("def", "g", ("n",), (("a", row(size(1, n=1))),), ("drop", size(1), name("a"))),
                   ("ask", ("call", "g", (("call", "g", (("row", (A, B, C)),)),))), ("ask", ("call", "g", (("row", (A,)),)))]
        found = Found(program)
        self.assertEqual([found.kind_at(1, node) for node in range(1, 7)],
                         [row(size(1)), row(size(2)), row(THREE), WHOLE, WHOLE, WHOLE])
        self.assertEqual([found.binds_at(1, node) for node in range(1, 7)], [(size(1),), (size(2),), None, None, None, None])
        self.assertEqual((found.kind_at(2, 1), found.binds_at(2, 1)), (row(NOUGHT), (NOUGHT,)))

    def test_without_names_and_params(self):
        found = Found([("def", "g", (), (), ("row", (A, B))), ("ask", ("pair", ("call", "g", ()), ZERO))])
        self.assertEqual(found.binds_at(1, 2), ())
        self.assertIsNone(found.binds_at(1, 1))
        self.assertIsNone(found.binds_at(1, 3))
        self.assertEqual(found.kind_at(1, 1), pair(row(size(2)), WHOLE))

    def test_a_def_that_calls(self):
        program = [("def", "g", ("n",), (("a", row(N)),), ("join", name("a"), name("a"))),
                   ("def", "h", ("n",), (("a", row(N)),), ("call", "g", (("call", "g", (name("a"),)),))),
                   ("ask", ("call", "h", (("row", (A, B, C)),)))]
        found = Found(program)
        self.assertEqual(found.told("h"), (("n",), (row(N),), row(size(n=4))))
        self.assertEqual((found.binds_at(1, 1), found.binds_at(1, 2)), ((size(n=2),), (N,)))
        self.assertEqual(found.kind_at(2, 1), row(size(12)))


class ToldTest(unittest.TestCase):

    def test_no_rows(self):
        found = Found([])
        self.assertEqual(found.rows(), [])
        self.assertIsNone(found.told("f"))

    def test_rows_and_told(self):
        program = [("ask", A), defined(U), ("def", "g", (), (("x", WHOLE),), X), ("ask", ("pair", A, B))]
        found = Found(program)
        self.assertEqual(found.rows(), program)
        self.assertEqual(found.told("f"), (("m", "n"), (row(M), row(N)), row(M)))
        self.assertEqual(found.told("g"), ((), (WHOLE,), WHOLE))
        for f in ["h", "u", "m", "ask", "ff", ""]:
            self.assertIsNone(found.told(f))
        self.assertEqual([found.kind_at(3, node) for node in [1, 2, 3]], [pair(WHOLE, WHOLE), WHOLE, WHOLE])
        self.assertEqual(found.kind_at(0, 1), WHOLE)

    def test_what_is_handed_in_stays_and_changes_nothing_later(self):
        program = [defined(U), ("ask", A)]
        found = Found(program)
        self.assertEqual(program, [defined(U), ("ask", A)])
        program[0] = ("ask", B)
        program.append(None)
        self.assertEqual(found.rows(), [defined(U), ("ask", A)])
        self.assertEqual(found.told("f"), (("m", "n"), (row(M), row(N)), row(M)))
        self.assertEqual(found.kind_at(0, 1), row(M))
        with self.assertRaises(NoProgram):
            Found(program)

    def test_what_is_told_is_new_each_time(self):
        found = Found([defined(U), ("ask", A)])
        told = found.rows()
        told.clear()
        self.assertEqual(found.rows(), [defined(U), ("ask", A)])
        self.assertIsNot(found.rows(), found.rows())

    def test_two_stand_apart(self):
        one, other = Found([defined(U)]), Found([defined(V), ("ask", A)])
        self.assertEqual((one.told("f")[2], other.told("f")[2]), (row(M), row(N)))
        self.assertEqual((len(one.rows()), len(other.rows())), (1, 2))

    def test_the_arguments_bear_the_told_names(self):
        told = {Found: "program", Found.rows: "self", Found.told: "self f", Found.kind_at: "self row node",
                Found.binds_at: "self row node"}
        for function, names in told.items():
            self.assertEqual(list(inspect.signature(function).parameters), names.split())


if __name__ == "__main__":
    unittest.main()
