import unittest

from defining import NOTHING, DefTest, defined
from indexwise.errors import NoName, Parts, TooGreat, Unlike
from indexwise.found import Found
from small import A, B, C, M, N, NOUGHT, THREE, WHOLE, ZERO, name, pair, place, row, size
from strangers import nested

U, V, X, Y = name("u"), name("v"), name("x"), name("y")
PARAM, OTHER = name("a"), name("b")
P = ("place", NOUGHT, size(1, n=1))
Z = size(z=1)
# A value of each of the four words.
FOUR = {"whole": A, "place": P, "row": V, "pair": ("pair", A, B)}


def but(word):
    return [e for other, e in FOUR.items() if other != word]


def called(*args):
    return ("call", "g", args)


class NoNameTest(DefTest):

    def test_a_name_that_stands_for_nothing(self):
        self.assert_refused(NoName, 1, NOTHING)
        self.assert_refused(NoName, 3, ("pair", A, NOTHING))
        for x in ["f", "m", "n"]:
            self.assert_refused(NoName, 1, name(x))

    def test_a_name_that_is_not_among_the_defs(self):
        for length in [Z, size(3, n=1, z=1), size(0, a=1, n=1), size(u=1)]:
            for e in [("length", length), ("none", place(length)), ("none", pair(WHOLE, row(N, row(length)))),
                      ("take", length, NOTHING), ("drop", length, NOTHING), ("place", length, size(99, n=1)),
                      ("place", NOUGHT, length), ("up", length, NOTHING), ("wide", length, NOTHING),
                      ("fork", length, NOTHING, "x", A, B), ("when", NOTHING, length, "x", A, B),
                      ("loop", "x", length, NOTHING), ("fold", "x", length, "y", NOTHING, B)]:
                self.assert_refused(NoName, 1, e)
                self.assert_refused(NoName, 3, ("pair", A, e))

    def test_an_ask_has_none(self):
        for e in [("length", N), ("none", place(N)), ("loop", "x", N, A), ("place", NOUGHT, size(1, n=1)),
                  ("when", A, M, "x", A, B)]:
            refusal = self.refusal([defined(A), ("ask", ("pair", ("length", THREE), e))])
            self.assertEqual((refusal.__class__, refusal.place), (NoName, (1, 3)))

    def test_an_f_of_no_earlier_row(self):
        self.assert_refused(NoName, 1, ("call", "h", ()))
        self.assert_refused(NoName, 1, ("call", "u", ()))
        # Its own row is no earlier one.
        self.assert_refused(NoName, 1, ("call", "f", (U, V)))
        later = [("ask", ("pair", A, ("call", "g", ()))), ("def", "g", (), (), A)]
        refusal = self.refusal(later)
        self.assertEqual((refusal.__class__, refusal.place), (NoName, (0, 3)))
        self.assertEqual(Found(later[1:] + later[:1]).kind_at(1, 1), pair(WHOLE, WHOLE))


class UnlikeTest(DefTest):

    def test_of_another_word_than_is_wanted(self):
        for e in but("whole"):
            for node in [("reckon", "plus", e, A), ("reckon", "same", A, e), ("if", e, A, B), ("when", e, N, "x", A, B)]:
                self.assert_refused(Unlike, 1, node)
        for e in but("pair"):
            self.assert_refused(Unlike, 1, ("first", e))
            self.assert_refused(Unlike, 1, ("second", e))
        for e in but("row"):
            for node in [("join", e, V), ("join", V, e), ("take", NOUGHT, e), ("drop", NOUGHT, e), ("zip", e, V),
                         ("zip", V, e), ("turn", e), ("turn", ("row", (e,))), ("get", e, P)]:
                self.assert_refused(Unlike, 1, node)
        for e in but("place"):
            for node in [("get", V, e), ("value", e), ("up", N, e), ("wide", size(9, n=9), e), ("mirror", e),
                         ("fork", NOUGHT, e, "x", A, B)]:
                self.assert_refused(Unlike, 1, node)

    def test_kinds_unlike(self):
        for one, e in FOUR.items():
            for other in but(one):
                for node in [("if", A, e, other), ("row", (e, other)), ("row", (e, e, other)), ("row", (e, e, e, other)),
                             ("join", ("row", (e,)), ("row", (other,))), ("fork", N, PARAM, "x", e, other),
                             ("when", A, N, "x", e, other), ("fold", "x", N, "y", e, other)]:
                    self.assert_refused(Unlike, 1, node, place(N))
                self.assert_refused(Unlike, 1, ("if", A, ("pair", U, e), ("pair", U, other)))

    def test_args_not_as_many(self):
        for count in [0, 1, 3, 4]:
            refusal = self.refusal([defined(A, f="g"), ("ask", ("pair", A, called(*[NOTHING] * count)))])
            self.assertEqual((refusal.__class__, refusal.place), (Unlike, (1, 3)))
        refusal = self.refusal([("def", "g", (), (), A), ("ask", called(A))])
        self.assertEqual((refusal.__class__, refusal.place), (Unlike, (1, 1)))

    def test_args_of_unlike_kinds(self):
        for e in [A, P[:2] + (size(1),), ("pair", A, B)]:
            refusal = self.refusal([defined(A, f="g"), ("ask", called(("row", (A,)), e))])
            self.assertEqual((refusal.__class__, refusal.place), (Unlike, (1, 1)))


class PartsTest(DefTest):

    def test_two_lengths_part(self):
        for node in [("if", A, U, V), ("row", (U, V)), ("row", (U, U, V)), ("join", ("row", (U,)), ("row", (V,))),
                     ("zip", U, V), ("when", A, N, "x", U, V), ("fold", "x", N, "y", U, V)]:
            self.assert_parts(1, M, N, {"m": 1, "n": 0}, node)
        for node in [("if", A, V, U), ("row", (V, U)), ("join", ("row", (V,)), ("row", (U,))), ("zip", V, U),
                     ("when", A, N, "x", V, U), ("fold", "x", N, "y", V, U)]:
            self.assert_parts(1, N, M, {"m": 1, "n": 0}, node)
        self.assert_parts(1, M, N, {"m": 1, "n": 0}, ("fork", N, PARAM, "x", U, V), place(N))

    def test_the_numbers(self):
        self.assert_parts(1, size(1, n=1), size(2, m=1, n=1), {"m": 0, "n": 0}, ("zip", PARAM, OTHER),
                          row(size(1, n=1)), row(size(2, m=1, n=1)))
        self.assert_parts(1, size(1, m=2, n=1), size(1, m=2, n=3), {"m": 0, "n": 1}, ("zip", PARAM, OTHER),
                          row(size(1, m=2, n=1)), row(size(1, m=2, n=3)))
        self.assert_parts(1, size(2), THREE, {}, ("zip", ("row", (A, B)), ("row", (A, B, C))))

    def test_within_kinds(self):
        self.assert_parts(1, N, M, {"m": 1, "n": 0}, ("if", A, PARAM, OTHER), pair(WHOLE, row(THREE, place(N))),
                          pair(WHOLE, row(THREE, place(M))))
        self.assert_parts(1, size(2), size(1), {}, ("if", A, ("row", (A, B)), ("row", (V,))))

    def test_of_each_other_part_with_the_first_one(self):
        self.assert_parts(1, M, N, {"m": 1, "n": 0}, ("row", (U, V, A)))
        self.assert_refused(Unlike, 1, ("row", (U, A, V)))
        self.assert_parts(1, M, size(m=2), {"m": 1}, ("row", (U, U, ("join", U, U), V)))

    def test_take_and_drop(self):
        for word in ["take", "drop"]:
            self.assert_parts(1, size(1, n=1), N, {"n": 0}, (word, size(1, n=1), V))
            self.assert_parts(1, M, N, {"m": 1, "n": 0}, (word, M, V))
            self.assert_parts(1, size(n=2), size(4, n=1), {"n": 5}, (word, size(n=2), PARAM), row(size(4, n=1)))

    def test_get(self):
        self.assert_parts(1, size(n=1), THREE, {"n": 4}, ("get", PARAM, OTHER), row(THREE), place(N))
        self.assert_parts(1, size(1, n=1), N, {"n": 0}, ("get", V, P))

    def test_place(self):
        self.assert_parts(1, size(1, n=1), N, {"n": 0}, ("place", N, N))
        self.assert_parts(1, size(1), NOUGHT, {}, ("place", NOUGHT, NOUGHT))
        self.assert_parts(1, size(1), N, {"n": 0}, ("place", NOUGHT, N))
        self.assert_parts(1, size(1, m=3), size(8, m=1, n=1), {"m": 4, "n": 0}, ("place", size(m=3), size(8, m=1, n=1)))
        self.assert_parts(1, size(100), size(99), {}, ("place", size(99), size(99)))

    def test_wide(self):
        self.assert_parts(1, size(1, n=1), N, {"n": 0}, ("wide", N, P))
        self.assert_parts(1, size(1, n=1), size(7), {"n": 7}, ("wide", size(7), P))

    def test_fork(self):
        self.assert_parts(1, size(2, n=1), size(1, n=1), {"n": 0}, ("fork", size(2, n=1), P, "x", A, B))
        self.assert_parts(1, M, size(1, n=1), {"m": 2, "n": 0}, ("fork", M, P, "x", A, B))
        self.assert_parts(1, N, size(1, m=1), {"m": 0, "n": 2}, ("fork", N, PARAM, "x", X, X), place(size(1, m=1)))
        self.assert_parts(1, N, size(2, m=1, n=1), {"m": 0, "n": 0}, ("fork", N, PARAM, "x", X, X),
                          place(size(2, m=1, n=2)))

    def assert_call_parts(self, one, other, numbers, params, *given):
        callee = ("def", "g", ("n",), tuple(zip("ab", params)), A)
        refusal = self.refusal([callee, defined(("pair", A, called(PARAM, OTHER)), *given)])
        self.assertEqual((refusal.__class__, refusal.place), (Parts, (1, 3)))
        self.assertEqual((refusal.one, refusal.other, refusal.numbers), (one, other, numbers))

    def test_call(self):
        self.assert_call_parts(M, THREE, {"m": 0}, [row(N), row(N)], row(M), row(THREE))
        self.assert_call_parts(size(1, m=2), M, {"m": 0}, [row(N), place(size(1, n=2))], row(M), place(M))
        self.assert_call_parts(THREE, N, {"n": 0}, [row(size(3, n=1)), WHOLE], row(N), WHOLE)
        self.assert_call_parts(THREE, size(2, m=4), {"m": 0}, [row(size(3, n=1)), WHOLE], row(size(2, m=4)), place(N))
        self.assert_call_parts(M, N, {"m": 1, "n": 0}, [row(N), row(N)], row(M), row(N))

    def test_a_call_whose_rest_exceeds(self):
        callee = ("def", "g", ("n", "k"), (("a", row(N)), ("b", row(size(k=1, n=2)))), A)
        refusal = self.refusal([callee, defined(called(PARAM, OTHER), row(M), row(size(5, m=1, n=1)))])
        self.assertEqual((refusal.__class__, refusal.place), (Parts, (1, 1)))
        self.assertEqual((refusal.one, refusal.other), (size(m=2), size(5, m=1, n=1)))
        self.assertEqual(refusal.numbers, {"m": 6, "n": 0})

    def test_the_numbers_are_new_each_time(self):
        first = self.refusal([defined(("zip", U, V))])
        first.numbers["m"] = 7
        self.assertEqual(self.refusal([defined(("zip", U, V))]).numbers, {"m": 1, "n": 0})


def row_of_one(thing):
    return row(size(1), thing)


class TooGreatTest(DefTest):

    def test_sizes(self):
        eleven = nested(WHOLE, lambda thing: row(N, thing), 10)
        twelve = row(M, eleven)
        self.assert_kind(row(NOUGHT, eleven), ("none", eleven))
        self.assert_refused(TooGreat, 1, ("none", twelve))
        self.assert_kind(row(size(1), eleven), ("row", (PARAM,)), eleven)
        self.assert_refused(TooGreat, 1, ("row", (PARAM,)), twelve)
        self.assert_kind(row(N, eleven), ("loop", "x", N, PARAM), eleven)
        self.assert_refused(TooGreat, 1, ("loop", "x", N, PARAM), twelve)
        self.assert_kind(twelve, PARAM, twelve)

    def test_sizes_of_pairs(self):
        five, six = nested(WHOLE, row_of_one, 4), nested(WHOLE, row_of_one, 5)
        self.assert_kind(pair(five, six), ("pair", PARAM, OTHER), five, six)
        self.assert_kind(pair(six, five), ("pair", PARAM, OTHER), six, five)
        self.assert_refused(TooGreat, 1, ("pair", PARAM, OTHER), six, six)
        self.assert_refused(TooGreat, 3, ("pair", A, ("pair", PARAM, OTHER)), six, six)
        self.assert_kind(row_of_one(pair(five, five)), ("zip", PARAM, OTHER), row_of_one(five), row_of_one(five))
        self.assert_refused(TooGreat, 1, ("zip", PARAM, OTHER), row_of_one(five), row_of_one(six))

    def test_numbers(self):
        self.assert_kind(row(size(99)), ("join", PARAM, OTHER), row(size(50)), row(size(49)))
        self.assert_refused(TooGreat, 1, ("join", PARAM, OTHER), row(size(50)), row(size(50)))
        self.assert_kind(row(size(n=99)), ("join", PARAM, OTHER), row(size(n=50)), row(size(n=49)))
        self.assert_refused(TooGreat, 1, ("join", PARAM, OTHER), row(size(n=50)), row(size(n=50)))
        self.assert_kind(place(size(99, n=99)), ("up", size(49, n=9), PARAM), place(size(50, n=90)))
        self.assert_refused(TooGreat, 1, ("up", size(50, n=9), PARAM), place(size(50, n=90)))
        self.assert_refused(TooGreat, 1, ("up", size(49, n=10), PARAM), place(size(50, n=90)))
        self.assert_refused(TooGreat, 2, ("value", ("up", size(99), PARAM)), place(size(1)))

    def test_call(self):
        callee = ("def", "g", ("n",), (("a", row(N)),), ("loop", "x", size(9, n=9), A))
        found = Found([callee, defined(called(PARAM), row(size(10, m=11)))])
        self.assertEqual(found.kind_at(1, 1), row(size(99, m=99)))
        for length in [size(11), size(m=12)]:
            refusal = self.refusal([callee, defined(("pair", A, called(PARAM)), row(length))])
            self.assertEqual((refusal.__class__, refusal.place), (TooGreat, (1, 3)))
        # Though what is taken of it would lie within the bounds again.
        refusal = self.refusal([callee, defined(("take", NOUGHT, called(PARAM)), row(size(11)))])
        self.assertEqual((refusal.__class__, refusal.place), (TooGreat, (1, 2)))


class OrderTest(DefTest):

    def test_rows_by_their_numbers(self):
        program = [("ask", A), ("def", "f", (), (), ("first", A)), ("ask", NOTHING)]
        refusal = self.refusal(program)
        self.assertEqual((refusal.__class__, refusal.place), (Unlike, (1, 1)))
        refusal = self.refusal([program[0], program[2], program[1]])
        self.assertEqual((refusal.__class__, refusal.place), (NoName, (1, 1)))

    def test_a_def_is_held_though_nothing_calls_it(self):
        self.assert_refused(Unlike, 1, ("first", A))

    def test_the_own_names_ahead_of_the_parts(self):
        for node in [("take", Z, ("first", A)), ("fork", Z, ("first", A), "x", A, B), ("loop", "x", Z, ("first", A)),
                     ("fold", "x", Z, "y", ("first", A), B), ("when", ("first", A), Z, "x", A, B),
                     ("up", Z, ("first", A)), ("wide", Z, ("first", A)), ("drop", Z, ("first", A)),
                     ("call", "h", (("first", A),)), ("call", "h", (NOTHING,))]:
            self.assert_refused(NoName, 1, node)

    def test_the_number_of_args_ahead_of_the_args(self):
        refusal = self.refusal([defined(A, f="g"), ("ask", called(NOTHING))])
        self.assertEqual((refusal.__class__, refusal.place), (Unlike, (1, 1)))

    def test_the_names_of_two_lengths_ahead_of_what_is_wanted_of_them(self):
        self.assert_refused(NoName, 1, ("place", size(9), Z))
        self.assert_refused(NoName, 1, ("place", size(9, z=1), NOUGHT))

    def test_the_parts_from_the_left(self):
        bad = ("first", A)
        for node in [("reckon", "plus", NOTHING, bad), ("if", NOTHING, bad, bad), ("let", "x", NOTHING, bad),
                     ("pair", NOTHING, bad), ("row", (NOTHING, bad)), ("join", NOTHING, bad), ("zip", NOTHING, bad),
                     ("get", NOTHING, bad), ("fork", N, NOTHING, "x", bad, bad), ("when", NOTHING, N, "x", bad, bad),
                     ("fold", "x", N, "y", NOTHING, bad)]:
            self.assert_refused(NoName, 2, node)
        for node in [("if", A, NOTHING, bad), ("fork", NOUGHT, P, "x", NOTHING, bad), ("when", A, N, "x", NOTHING, bad),
                     ("row", (A, NOTHING, bad)), ("pair", A, NOTHING), ("let", "x", A, NOTHING)]:
            self.assert_refused(NoName, 3, node)

    def test_a_part_and_all_within_it_ahead_of_the_next_one(self):
        self.assert_refused(NoName, 4, ("pair", ("pair", A, NOTHING), NOTHING))
        self.assert_refused(Unlike, 2, ("pair", ("first", A), NOTHING))
        self.assert_refused(TooGreat, 2, ("pair", ("up", size(99), P), NOTHING))

    def test_what_is_wanted_of_a_part_as_soon_as_its_kind_is_found(self):
        for node in [("reckon", "plus", V, NOTHING), ("if", V, NOTHING, NOTHING), ("join", A, NOTHING),
                     ("zip", A, NOTHING), ("get", A, NOTHING), ("fork", NOUGHT, A, "x", NOTHING, NOTHING),
                     ("when", V, N, "x", NOTHING, NOTHING)]:
            self.assert_refused(Unlike, 1, node)

    def test_what_is_wanted_of_a_length_and_a_part_as_soon_as_its_kind_is_found(self):
        self.assert_refused(Parts, 1, ("fork", size(2, n=1), P, "x", NOTHING, NOTHING))

    def test_what_is_wanted_of_two_parts_together_behind_all_parts(self):
        for last, node in [(4, ("if", A, A, NOTHING)), (4, ("row", (A, V, NOTHING))), (4, ("row", (U, V, NOTHING))),
                           (5, ("fork", NOUGHT, P, "x", A, ("first", NOTHING))), (5, ("when", A, N, "x", V, ("first", NOTHING)))]:
            self.assert_refused(NoName, last, node)
        self.assert_refused(NoName, 5, ("row", (A, V, U, NOTHING)))

    def test_a_calls_kinds_behind_all_args(self):
        callee = ("def", "g", (), (("a", WHOLE), ("b", WHOLE)), A)
        refusal = self.refusal([callee, defined(called(V, NOTHING))])
        self.assertEqual((refusal.__class__, refusal.place), (NoName, (1, 3)))

    def test_the_first_fault_of_a_call(self):
        callee = ("def", "g", ("n",), (("a", row(N)), ("b", pair(row(N), WHOLE))), A)
        refusal = self.refusal([callee, defined(called(U, ("pair", V, V)))])
        self.assertEqual((refusal.__class__, refusal.place), (Parts, (1, 1)))
        self.assertEqual((refusal.one, refusal.other), (M, N))
        refusal = self.refusal([callee, defined(called(U, ("pair", A, V)))])
        self.assertEqual((refusal.__class__, refusal.place), (Unlike, (1, 1)))

    def test_the_bounds_last(self):
        twelve = nested(WHOLE, row_of_one, 11)
        self.assert_refused(NoName, 1, ("none", nested(place(Z), row_of_one, 11)))
        self.assert_refused(Unlike, 1, ("row", (PARAM, A)), twelve)
        self.assert_refused(Parts, 1, ("row", (PARAM, OTHER)), twelve, row(size(2), twelve[2]))
        self.assert_refused(TooGreat, 1, ("row", (PARAM, PARAM)), twelve)
        self.assert_refused(NoName, 3, ("pair", PARAM, NOTHING), twelve)
        self.assert_refused(Unlike, 1, ("join", PARAM, OTHER), row(size(60)), row(size(60), place(THREE)))
        self.assert_refused(Parts, 1, ("zip", PARAM, OTHER), nested(WHOLE, row_of_one, 8),
                            row(size(2), nested(WHOLE, row_of_one, 8)))
        callee = ("def", "g", ("n",), (("a", row(N)), ("b", WHOLE)), ("loop", "x", size(n=99), A))
        refusal = self.refusal([callee, defined(called(PARAM, V), row(size(2)))])
        self.assertEqual((refusal.__class__, refusal.place), (Unlike, (1, 1)))

    def test_ahead_of_what_is_wanted_of_it(self):
        self.assert_refused(TooGreat, 2, ("first", ("up", size(99), P)))
        self.assert_refused(TooGreat, 2, ("reckon", "plus", ("up", size(99), P), ZERO))


if __name__ == "__main__":
    unittest.main()
