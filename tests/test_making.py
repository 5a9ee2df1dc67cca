"""Point 20: the bare code of each expression, and the made program."""

import unittest

from defining import defined
from indexwise.found import Found
from indexwise.making import made
from small import A, B, C, M, N, NOUGHT, WHOLE, ZERO, name, number, pair, place, row, size

ONE = (((), 1),)
SM, SN = (((("m", 1),), 1),), (((("n", 1),), 1),)
MN = (((("m", 1), ("n", 1)), 1),)
U, V, P, T = name("u"), name("v"), name("p"), name("t")


def whole(n):
    return (((), n),)


def params(**kinds):
    return (("u", row(M)), ("v", row(N))) + tuple(kinds.items())


class CodeTest(unittest.TestCase):

    def assert_code(self, code, e, defs=(), **kinds):
        found = Found(list(defs) + [("def", "f", ("m", "n"), params(**kinds), e)])
        functions, asks = made(found)
        self.assertEqual(functions["f"], (("m", "n"), ("u", "v") + tuple(kinds), code))
        self.assertEqual(asks, [])

    def test_number_name_length(self):
        self.assert_code(("number", 7), number(7))
        self.assert_code(("number", 0), ZERO)
        self.assert_code(("name", "u"), U)
        self.assert_code(("size", (((), 3), ((("m", 1),), 2), ((("n", 1),), 1))), ("length", size(3, m=2, n=1)))
        self.assert_code(("size", ()), ("length", NOUGHT))
        self.assert_code(("size", whole(9)), ("length", size(9)))

    def test_reckon_if_let(self):
        for word in ["plus", "minus", "times", "less", "same"]:
            self.assert_code(("reckon", word, A, ("size", SN)), ("reckon", word, A, ("length", N)))
        self.assert_code(("if", ("size", SN), B, ("size", SM)), ("if", ("length", N), B, ("length", M)))
        self.assert_code(("let", "x", ("size", SN), ("lay", (("name", "x"), ("size", ())))),
                         ("let", "x", ("length", N), ("pair", name("x"), ("length", NOUGHT))))

    def test_places(self):
        self.assert_code(("size", SM), ("place", M, size(1, m=1, n=1)))
        self.assert_code(("size", ()), ("place", NOUGHT, size(1)))
        self.assert_code(P, ("value", P), p=place(N))
        self.assert_code(P, ("wide", size(3, n=1), P), p=place(N))
        self.assert_code(("reckon", "plus", P, ("size", (((), 2), ((("m", 1),), 1)))), ("up", size(2, m=1), P), p=place(N))
        self.assert_code(("reckon", "plus", P, ("size", ())), ("up", NOUGHT, P), p=place(N))
        self.assert_code(("mirror", SN, P), ("mirror", P), p=place(N))
        self.assert_code(("mirror", whole(4), ("size", whole(1))), ("mirror", ("place", size(1), size(4))))
        self.assert_code(("mirror", (((), 2), ((("n", 1),), 1)), P), ("mirror", ("wide", size(2, n=1), P)), p=place(N))

    def test_lay(self):
        self.assert_code(("lay", (U, A)), ("pair", U, A))
        self.assert_code(("lay", (U, V)), ("join", U, V))
        self.assert_code(("lay", (A, B, C, ("size", SN))), ("row", (A, B, C, ("length", N))))
        self.assert_code(("lay", (A,)), ("row", (A,)))
        self.assert_code(("lay", ()), ("none", row(N, place(M))))
        self.assert_code(("lay", (("lay", (A,)), ("lay", ()))), ("join", ("row", (A,)), ("none", WHOLE)))

    def test_parts_of_pairs(self):
        kind = pair(row(N), pair(WHOLE, row(M, row(N))))
        self.assert_code(("part", (), SN, T), ("first", T), t=kind)
        self.assert_code(("part", SN, (((), 1), MN[0]), T), ("second", T), t=kind)
        self.assert_code(("part", ONE, MN, ("part", SN, (((), 1), MN[0]), T)), ("second", ("second", T)), t=kind)
        self.assert_code(("part", (), (), T), ("first", T), t=pair(row(NOUGHT), WHOLE))
        self.assert_code(("part", (), ONE, T), ("second", T), t=pair(row(NOUGHT), WHOLE))
        self.assert_code(("part", ONE, ONE, T), ("second", T), t=pair(place(N), place(M)))

    def test_take_and_drop(self):
        kind = row(size(3, m=1, n=2), pair(WHOLE, row(N)))
        w = (((), 1), ((("n", 1),), 1))
        self.assert_code(("part", (), (((("m", 1),), 1), MN[0]), T), ("take", M, T), t=kind)
        self.assert_code(("part", (((("m", 1),), 1), MN[0]), (((), 3), ((("n", 1),), 5), ((("n", 2),), 2)), T),
                         ("drop", M, T), t=kind)
        self.assert_code(("part", (), (), T), ("take", NOUGHT, T), t=kind)
        self.assert_code(("part", (), (((), 2), ((("n", 1),), 2)), T), ("take", size(2), T), t=kind)
        self.assert_code(("part", w, (((), 2), ((("m", 1),), 1), (MN[0][0], 1), ((("n", 1),), 4), ((("n", 2),), 2)), T),
                         ("drop", size(1), T), t=kind)
        self.assert_code(("part", SN, (), V), ("drop", N, V))
        self.assert_code(("part", (), SN, V), ("take", N, V))
        self.assert_code(("part", (), SN, V), ("drop", NOUGHT, V))

    def test_weave(self):
        self.assert_code(("weave", SN, ONE, ONE, V, V), ("zip", V, V))
        self.assert_code(("weave", SN, MN, (((), 2),), T, name("s")), ("zip", T, name("s")), t=row(N, row(M, row(N))),
                         s=row(N, pair(WHOLE, WHOLE)))
        self.assert_code(("weave", (), ONE, SN, ("lay", ()), ("lay", ())), ("zip", ("none", WHOLE), ("none", row(N))))

    def test_turn(self):
        self.assert_code(("turn", SM, SN, ONE, T), ("turn", T), t=row(M, row(N)))
        self.assert_code(("turn", whole(2), SN, (((), 1), ((("m", 1),), 1)), T), ("turn", T),
                         t=row(size(2), row(N, pair(WHOLE, row(M)))))
        self.assert_code(("turn", (), SN, (), T), ("turn", T), t=row(NOUGHT, row(N, row(NOUGHT))))

    def test_pick(self):
        self.assert_code(("pick", ONE, V, P), ("get", V, P), p=place(N))
        self.assert_code(("pick", MN, T, P), ("get", T, P), t=row(N, row(M, row(N))), p=place(N))
        self.assert_code(("pick", whole(2), T, ("size", whole(1))), ("get", T, ("place", size(1), size(2))),
                         t=row(size(3), pair(WHOLE, place(N))))

    def test_fork_when_loop_fold(self):
        self.assert_code(("fork", SM, P, "x", ("name", "x"), ("size", SM)),
                         ("fork", M, P, "x", ("value", name("x")), ("length", M)), p=place(size(m=1, n=1)))
        self.assert_code(("fork", (), P, "x", A, ("name", "x")), ("fork", NOUGHT, P, "x", A, ("value", name("x"))),
                         p=place(N))
        self.assert_code(("when", ("size", SN), whole(3), "x", A, B), ("when", ("length", N), size(3), "x", A, B))
        self.assert_code(("loop", "i", SN, ("pick", ONE, V, ("mirror", SN, ("name", "i")))),
                         ("loop", "i", N, ("get", V, ("mirror", name("i")))))
        self.assert_code(("loop", "i", (), A), ("loop", "i", NOUGHT, A))
        self.assert_code(("fold", "i", SN, "s", ("size", SM), ("reckon", "plus", ("name", "s"), ("name", "i"))),
                         ("fold", "i", N, "s", ("length", M), ("reckon", "plus", name("s"), ("value", name("i")))))

    def test_call(self):
        g = ("def", "g", ("n", "k"), (("a", row(N)), ("b", row(size(1, n=1, k=1)))), A)
        h = ("def", "h", (), (), A)
        self.assert_code(("call", "h", (), ()), ("call", "h", ()), [h])
        self.assert_code(("call", "g", (SM, SN), (U, ("lay", (U, ("lay", (V, ("lay", (A,)))))))),
                         ("call", "g", (U, ("join", U, ("join", V, ("row", (A,)))))), [g])
        self.assert_code(("call", "g", ((), whole(2)), (("lay", ()), ("lay", (A, B, C)))),
                         ("call", "g", (("none", WHOLE), ("row", (A, B, C)))), [g])
        self.assert_code(("call", "g", (whole(1), (((), 1), ((("n", 1),), 2))), (("lay", (A,)),
                          ("lay", (V, ("lay", (V, ("lay", (A, B, C)))))))),
                         ("call", "g", (("row", (A,)), ("join", V, ("join", V, ("row", (A, B, C)))))), [g])

    def test_the_names_of_a_call_stand_in_the_order_of_the_def(self):
        swapped = ("def", "g", ("k", "j"), (("a", row(size(j=1))), ("b", row(size(k=1)))), A)
        self.assert_code(("call", "g", (SN, SM), (U, V)), ("call", "g", (U, V)), [swapped])


class ProgramTest(unittest.TestCase):

    ROWS = [("def", "g", (), (), ("row", (A, B))), ("ask", A), defined(("length", N)), ("ask", ("call", "g", ())),
            ("def", "h", (), (("y", WHOLE),), name("y"))]

    def test_functions_and_asks(self):
        functions, asks = made(Found(self.ROWS))
        self.assertEqual(functions, {
            "g": ((), (), ("lay", (A, B))), "f": (("m", "n"), ("u", "v"), ("size", SN)), "h": ((), ("y",), ("name", "y"))})
        self.assertEqual(asks, [A, ("call", "g", (), ())])

    def test_the_made_program_is_a_tuple_of_a_dict_and_a_list(self):
        for rows in [self.ROWS, []]:
            program = made(Found(rows))
            self.assertEqual([each.__class__ for each in (program,) + program], [tuple, dict, list])
        self.assertEqual(made(Found([])), ({}, []))

    def test_each_time_a_new_dict_and_list(self):
        found = Found(self.ROWS)
        before = made(found)
        other = made(found)
        other[0].clear()
        other[1].append(A)
        self.assertEqual(made(found), before)
        self.assertEqual(len(before[0]), 3)
        self.assertEqual(len(before[1]), 2)

    def test_codes_are_tuples_throughout(self):
        def looked_at(thing):
            self.assertIn(thing.__class__, [tuple, str, int])
            if isinstance(thing, tuple):
                for each in thing:
                    looked_at(each)
        for function in made(Found(self.ROWS))[0].values():
            looked_at(function)


if __name__ == "__main__":
    unittest.main()
