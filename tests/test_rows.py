import inspect
import unittest

from indexwise.rows import is_expression, nodes_of
from small import A, B, C, EACH, M, N, NOUGHT, WHOLE, WORDS, ZERO, name, number, pair, place, row, size
from strangers import Prickly, nested, strangers

GREAT = 10 ** 60 - 1


def replaced(node, index, thing):
    return node[:index] + (thing,) + node[index + 1:]


def with_nodes(count):
    """A low expression of just so many nodes."""
    if count == 1:
        return ZERO
    shares = [(count - 1 + k) // 4 for k in range(4)]
    return ("row", tuple(with_nodes(share) for share in shares if share > 0))


def beneath(depth, innermost=ZERO):
    return nested(innermost, lambda thing: ("first", thing), depth)


def with_parts(make):
    """Each expression of EACH that has parts, once for each of them, with `make` put in its place."""
    found = []
    for node in EACH:
        for index, thing in enumerate(node):
            if thing in (A, B, C):
                found.append(replaced(node, index, make()))
            if isinstance(thing, tuple) and A in thing:
                found.extend(replaced(node, index, replaced(thing, k, make())) for k in range(len(thing)))
    return found


class ExpressionTest(unittest.TestCase):

    def assert_expressions(self, things):
        for thing in things:
            self.assertIs(is_expression(thing), True, thing)

    def assert_none(self, things):
        for thing in things:
            # Not shown where it fails: some of these are far too great to be written.
            self.assertIs(is_expression(thing), False)

    def test_one_of_each(self):
        self.assertEqual(len(EACH), 27)
        self.assertEqual({node[0] for node in EACH}, set(WORDS[:27]))
        self.assert_expressions(EACH)

    def test_each_within_each(self):
        for inner in EACH:
            self.assert_expressions(with_parts(lambda: inner))

    def test_another_word(self):
        for node in EACH:
            for word in ["", "Number", node[0].upper(), node[0] + "s", " " + node[0], "def", "ask", "whole", "plus", "f",
                         "args", "part", "things", None, 0, True, (), [node[0]], (node[0],), Prickly()]:
                self.assert_none([replaced(node, 0, word)])

    def test_too_few_and_too_many_things(self):
        for node in EACH:
            for index in range(len(node)):
                self.assert_none([node[:index] + node[index + 1:]])
            for more in [A, "x", N, (), WHOLE, None, Prickly()]:
                self.assert_none([node + (more,)])
        self.assert_none([(), ("number",), ("name",), ("row",), ("call",), ("call", "f"), ("if",)])

    def test_lists_for_tuples(self):
        for node in EACH:
            self.assert_none([list(node)])
            for index, thing in enumerate(node):
                if isinstance(thing, tuple):
                    self.assert_none([replaced(node, index, list(thing))])
        self.assert_none([("length", (0, [])), ("length", (0, (["n", 1],))), ("none", ("row", [0, ()], WHOLE)),
                          ("row", ([*A],)), ("call", "f", (list(A),))])

    def test_anything_in_the_place_of_a_thing(self):
        for node in EACH:
            for index in range(1, len(node)):
                for thing in strangers():
                    wanted = False
                    if node[0] == "number":
                        wanted = isinstance(thing, int) and not isinstance(thing, bool) and 0 <= thing < 10 ** 12
                    if node[0] == "call" and index == 2:
                        wanted = isinstance(thing, tuple) and len(thing) == 0
                    self.assertIs(is_expression(replaced(node, index, thing)), wanted)

    def test_anything_in_the_place_of_a_part(self):
        for thing in strangers() + ["x", 0, N, WHOLE, place(N), row(N), ("def", "f", (), (), A), ("ask", A), (A,)]:
            self.assert_none(with_parts(lambda: thing))

    def test_anything(self):
        self.assert_none(strangers() + ["x", "number", NOUGHT, N, WHOLE, place(N), row(N), {"number": 0}, ("ask", A)])
        self.assert_none([(thing, thing) for thing in strangers()])
        self.assert_none([("pair", thing, thing) for thing in strangers()])

    def test_numbers(self):
        self.assert_expressions([number(0), number(1), number(10 ** 12 - 1)])
        self.assert_none([number(n) for n in [10 ** 12, GREAT, -1, True, False, None, 0.0, "0", (0,), (), 1j]])

    def test_names(self):
        for x in ["x", "abcdefgh", "zz"] + WORDS:
            self.assert_expressions([name(x), ("let", x, A, B), ("loop", x, N, A), ("fold", x, N, "yy", A, B),
                                     ("fold", "yy", N, x, A, B), ("fork", N, A, x, B, C), ("when", A, N, x, B, C)])
        for x in ["", "abcdefghi", "X", "x1", "x y", "\u00e4", None, 0, True, ("x",), ["x"], A, Prickly()]:
            self.assert_none([name(x), ("let", x, A, B), ("loop", x, N, A), ("fold", x, N, "y", A, B),
                              ("fold", "x", N, x, A, B), ("fork", N, A, x, B, C), ("when", A, N, x, B, C),
                              ("call", x, (A,))])

    def test_a_calls_f(self):
        self.assert_expressions([("call", f, ()) for f in ["f", "abcdefgh", "def", "ask", "whole", "args", "word",
                                                           "numbers", "zipp", "n", "x"]])
        self.assertEqual(len(WORDS), 32)
        self.assert_none([("call", word, ()) for word in WORDS])
        self.assert_none([("call", word, (A, B)) for word in WORDS])
        self.assert_none([("call", "abcdefghi", ()), ("call", "", ())])

    def test_a_fold_with_x_and_y_alike(self):
        self.assert_expressions([("fold", "x", N, "y", A, B), ("fold", "y", N, "x", A, B), ("fold", "x", N, "xx", A, B)])
        self.assert_none([("fold", "x", N, "x", A, B), ("fold", "y", N, "y", A, B)])

    def test_the_words_of_a_reckon(self):
        self.assert_expressions([("reckon", word, A, B) for word in ["plus", "minus", "times", "less", "same"]])
        self.assert_none([("reckon", word, A, B) for word in ["", "Plus", "reckon", "number", "more", "divide", "+",
                                                              "plusminus", None, 0, ("plus",), ["plus"], Prickly()]])

    def test_lengths(self):
        def each(length):
            return [("length", length), ("take", length, A), ("drop", length, A), ("place", length, N),
                    ("place", N, length), ("up", length, A), ("wide", length, A), ("fork", length, A, "x", B, C),
                    ("when", A, length, "x", B, C), ("loop", "x", length, A), ("fold", "x", length, "y", A, B)]
        for length in [NOUGHT, size(99), size(n=99), size(99, a=99, m=99, n=99), size(1, abcdefgh=1)]:
            self.assert_expressions(each(length))
        for length in [size(100), size(n=100), size(0, m=1, n=100), size(0, m=100, n=1), size(GREAT), (-1, ()),
                       (True, ()), (0, (("n", True),)), (0, (("n", 0),)), (0, (("n", 1), ("m", 1))),
                       (0, (("n", 1), ("n", 1))), (0, (("abcdefghi", 1),)), 3, "n", None, WHOLE, A, Prickly()]:
            self.assert_none(each(length))

    def test_the_kind_of_none(self):
        self.assert_expressions([("none", kind) for kind in [WHOLE, place(M), pair(WHOLE, row(N)), row(size(99, n=99)),
                                                             nested(WHOLE, lambda thing: row(N, thing), 11)]])
        self.assert_none([("none", kind) for kind in [nested(WHOLE, lambda thing: row(N, thing), 12), row(size(100)),
                                                      place(size(n=100)), ("whole", ()), "whole", N, A, None, ()]])

    def test_args(self):
        for count in range(6):
            args = (A, B, C, ZERO, A)[:count]
            self.assertIs(is_expression(("call", "f", args)), count <= 4)
            self.assertIs(is_expression(("row", args)), 1 <= count <= 4)
        self.assert_none([("call", "f", A), ("row", A), ("call", "f", A, B), ("row", A, B), ("row", None),
                          ("call", "f", {}), ("call", "f", ""), ("row", "abc")])

    def test_forty_nodes_and_forty_one(self):
        for count in [1, 2, 3, 5, 39, 40]:
            self.assertEqual(len(nodes_of(with_nodes(count))), count)
            self.assert_expressions([with_nodes(count)])
        self.assert_none([with_nodes(41), with_nodes(42), with_nodes(200)])
        for node in with_parts(lambda: with_nodes(37)):
            more = len(nodes_of(node)) - 37
            index = [place for place, thing in enumerate(node) if thing == with_nodes(37)]
            if index:
                self.assert_expressions([replaced(node, index[0], with_nodes(40 - more))])
                self.assert_none([replaced(node, index[0], with_nodes(41 - more))])

    def test_beneath_seven_and_beneath_eight(self):
        self.assert_expressions([beneath(depth) for depth in range(8)])
        self.assert_none([beneath(depth) for depth in [8, 9, 40, 100]])
        self.assert_expressions(with_parts(lambda: beneath(6)))
        self.assert_none(with_parts(lambda: beneath(7)))
        for innermost in EACH:
            deeper = 0 if len(nodes_of(innermost)) == 1 else 1
            self.assert_expressions([beneath(7 - deeper, innermost)])
            self.assert_none([beneath(8 - deeper, innermost)])

    def test_nested_deep(self):
        # Walked whole, these would have 2 ** 100 nodes and more.
        self.assert_none([nested(A, lambda thing: ("pair", thing, thing)),
                          nested(A, lambda thing: ("row", (thing, thing, thing, thing))),
                          nested(A, lambda thing: ("call", "f", (thing, thing)), 30),
                          ("none", nested(WHOLE, lambda thing: pair(thing, thing)))])


class NodesTest(unittest.TestCase):

    def test_without_parts(self):
        for node in [number(7), name("x"), ("length", N), ("none", row(N, row(M))), ("place", M, N), ("call", "f", ())]:
            self.assertEqual(nodes_of(node), [node])

    def test_the_parts_from_the_left(self):
        for node in EACH:
            parts = [thing for thing in node if thing in (A, B, C)]
            if node[0] in ("row", "call"):
                parts = [A, B, C]
            self.assertEqual(nodes_of(node), [node] + parts)

    def test_each_ahead_of_its_parts(self):
        inner = ("if", A, B, ("row", (C, A)))
        last = ("fold", "x", N, "y", ("pair", B, C), ("let", "z", A, B))
        node = ("call", "f", (inner, ("length", N), last))
        self.assertEqual(nodes_of(node), [node, inner, A, B, ("row", (C, A)), C, A, ("length", N), last,
                                          ("pair", B, C), B, C, ("let", "z", A, B), A, B])

    def test_the_same_part_twice(self):
        both = ("pair", A, A)
        self.assertEqual(nodes_of(("pair", both, both)), [("pair", both, both), both, A, A, both, A, A])

    def test_beyond_the_bounds(self):
        self.assertEqual(len(nodes_of(with_nodes(60))), 60)
        self.assertEqual(nodes_of(beneath(20)), [beneath(depth) for depth in range(20, -1, -1)])

    def test_the_list_is_the_askers_own(self):
        node = ("pair", A, B)
        nodes_of(node).clear()
        self.assertEqual(nodes_of(node), [node, A, B])


class ArgumentsTest(unittest.TestCase):

    def test_the_arguments_bear_the_told_names(self):
        for function, names in {is_expression: ["thing"], nodes_of: ["expression"]}.items():
            self.assertEqual(list(inspect.signature(function).parameters), names)


if __name__ == "__main__":
    unittest.main()
