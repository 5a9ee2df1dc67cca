"""Points 22 to 24: lengths, kinds, expressions, programs and values written."""

import unittest

from indexwise.kinds import is_kind, is_value
from indexwise.lengths import is_length
from indexwise.rows import RECKONS, is_expression, is_row, nodes_of
from indexwise.writing import show, show_expression, show_kind, show_length, show_sum, show_value
from small import WHOLE, pair, row, size
from written import EXPRESSIONS, GREAT_LENGTHS, KINDS, LENGTHS, ROWS, VALUES


class WritingTest(unittest.TestCase):

    def test_lengths(self):
        for length, text in LENGTHS + GREAT_LENGTHS:
            self.assertTrue(is_length(length), text)
            self.assertEqual(show_length(length), text)

    def test_kinds(self):
        for kind, text in KINDS:
            self.assertTrue(is_kind(kind), text)
            self.assertEqual(show_kind(kind), text)

    def test_kinds_beyond_the_bounds(self):
        self.assertEqual(show_kind(row(size(100, n=1000))), "row(1000*n+100, whole)")
        kind, text = WHOLE, "whole"
        for level in range(30):
            kind, text = pair(kind, WHOLE), f"pair({text}, whole)"
        self.assertEqual(show_kind(kind), text)

    def test_expressions(self):
        for expression, text in EXPRESSIONS:
            self.assertTrue(is_expression(expression), text)
            self.assertEqual(show_expression(expression), text)

    def test_every_word_is_there(self):
        nodes = [node for expression, text in EXPRESSIONS for node in nodes_of(expression)]
        self.assertEqual(len({node[0] for node in nodes}), 27)
        self.assertEqual({node[1] for node in nodes if node[0] == "reckon"}, set(RECKONS))

    def test_rows(self):
        for each, text in ROWS:
            self.assertTrue(is_row(each), text)
            self.assertEqual(show([each]), text)

    def test_programs(self):
        self.assertEqual(show([]), "")
        for count in range(1, 1 + len(ROWS)):
            self.assertEqual(show([each for each, text in ROWS[:count]]), "\n".join([text for each, text in ROWS[:count]]))

    def test_the_program_stays(self):
        program = [each for each, text in ROWS]
        show(program)
        self.assertEqual(program, [each for each, text in ROWS])

    def test_values(self):
        for kind, value, text in VALUES:
            self.assertTrue(is_value(kind, {"n": 3}, value) or is_value(kind, {"n": 2}, value), text)
            self.assertEqual(show_value(kind, value), text)

    def test_sums(self):
        for s, text in [((), "0"), ((((), 1),), "1"), ((((), 12),), "12"), ((((("n", 1),), 1),), "n"),
                        ((((("m", 1), ("n", 2)), 2),), "2*m*n^2"), ((((("m", 3), ("n", 1)), 1),), "m^3*n"),
                        ((((), 3), ((("m", 1),), 1), ((("m", 1), ("n", 1)), 5), ((("m", 2),), 10)),
                         "3 + m + 5*m*n + 10*m^2")]:
            self.assertEqual(show_sum(s), text)


if __name__ == "__main__":
    unittest.main()
