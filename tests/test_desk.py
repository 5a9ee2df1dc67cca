"""Point 25: the desk."""

import unittest

from bounds import SEVERAL
from indexwise.desk import Desk
from indexwise.errors import (IndexwiseError, NoBind, NoLine, NoName, NoWords, Parts, TooGreat, TooLong, Twice, Unlike)
from indexwise.writing import show
from strangers import strangers

TEXT = """def dot n (a: row(n, whole), b: row(n, whole)) = fold(i, n, s, 0, plus(s, times(get(a, i), get(b, i))))
ask dot(row(3, 4), row(1, 2))
def table m n (a: row(m, whole), b: row(n+1, whole)) = loop(i, m, loop(j, n+1, pair(get(a, i), get(b, j))))
def seven () = 7
ask table(row(1, 2), row(3))
def empty n (p: row(n, place(n))) = pair(none(whole), none(row(n, whole)))
ask pair(turn(none(row(2, whole))), empty(none(place(0))))
def many b a (x: row(b, whole), y: row(a, place(b)), z: pair(whole, place(a+2))) = pair(row(row(x, x), row(x, x)), pair(z, y))
ask seven()"""


class DeskTest(unittest.TestCase):

    def setUp(self):
        self.desk = Desk()

    def refusal(self, line):
        with self.assertRaises(IndexwiseError) as taken:
            self.desk.say(line)
        return taken.exception

    def assert_refused(self, error, line, place=None):
        refusal = self.refusal(line)
        self.assertEqual((refusal.__class__, refusal.place), (error, place), line)

    def assert_answers(self, *pairs):
        for line, answer in pairs:
            self.assertEqual(self.desk.say(line), answer, line)


class LoadTest(DeskTest):

    def test_how_many(self):
        self.assert_answers(("load\n" + TEXT, "5 4"), ("load\n", "0 0"), ("load\nask 1", "0 1"), ("load\ndef f () = 1", "1 0"),
                            ("load\n" + "\n".join(["ask 1"] * 12), "0 12"))

    def test_the_program_stands_there_from_now_on(self):
        self.assert_answers(("load\nask 1", "0 1"), ("ask 0", "1"), ("ask 0", "1"), ("load\nask 2\ndef f () = 3", "1 1"),
                            ("ask 0", "2"), ("kind f", "-> whole"), ("load\n", "0 0"))
        self.assert_refused(NoName, "ask 0")
        self.assert_refused(NoName, "kind f")

    def test_refused_as_programs_are(self):
        for text, error, place in [
            ("ask", NoWords, (0, 0)), ("ask 1\n", NoWords, (1, 0)), ("ask 1\nask  2", NoWords, (1, 0)), ("\n", NoWords, (0, 0)),
            ("\n".join(["ask 1"] * 13), NoWords, (0, 0)), ("ask 1\ndef f (x: whole, x: whole) = 1", Twice, (1, 0)),
            ("def f () = 1\ndef f () = 1", Twice, (1, 0)), ("ask 1\nask 1\ndef f n () = 1", NoBind, (2, 0)),
            ("ask x", NoName, (0, 1)), ("ask pair(1, x)", NoName, (0, 3)), ("ask 1\nask first(1)", Unlike, (1, 1)),
            ("ask length(n)", NoName, (0, 1)), ("def f m n (a: row(m, whole), b: row(n, whole)) = pair(1, zip(a, b))", Parts, (0, 3)),
            ("def f n (a: row(99*n, whole)) = join(a, a)", NoBind, (0, 0)),
            ("def f n (v: row(n, whole), a: row(99*n, whole)) = join(a, a)", TooGreat, (0, 1)),
            ("ask x\nask", NoWords, (1, 0)), ("ask x\ndef f n () = 1", NoBind, (1, 0)),
        ]:
            self.assert_refused(error, "load\n" + text, place)

    def test_lengths_that_part_are_told(self):
        refusal = self.refusal("load\ndef f m n (a: row(m, whole), b: row(n, whole)) = zip(a, b)")
        self.assertEqual((refusal.one, refusal.other, refusal.numbers),
                         ((0, (("m", 1),)), (0, (("n", 1),)), {"m": 1, "n": 0}))

    def test_a_load_that_is_refused_changes_nothing(self):
        self.desk.say("load\n" + TEXT)
        for text in ["ask", "ask x", "ask 1\n", "def f n () = 1", "def dot () = 1\ndef dot () = 2", "ask first(1)"]:
            with self.assertRaises(IndexwiseError):
                self.desk.say("load\n" + text)
            self.assert_answers(("ask 0", "11"), ("kind seven", "-> whole"), ("weight dot", "1"))


class AnswersTest(DeskTest):

    def setUp(self):
        self.desk = Desk()
        self.desk.say("load\n" + TEXT)

    def test_kinds(self):
        self.assert_answers(
            ("kind dot", "row(n, whole), row(n, whole) -> whole"), ("kind seven", "-> whole"),
            ("kind table", "row(m, whole), row(n+1, whole) -> row(m, row(n+1, pair(whole, whole)))"),
            ("kind empty", "row(n, place(n)) -> pair(row(0, whole), row(0, row(n, whole)))"),
            ("kind many", "row(b, whole), row(a, place(b)), pair(whole, place(a+2)) -> "
                          "pair(row(2, row(2, row(b, whole))), pair(pair(whole, place(a+2)), row(a, place(b))))"))

    def test_asks(self):
        self.assert_answers(("ask 0", "11"), ("ask 1", "[[(1, 3)], [(2, 3)]]"), ("ask 2", "([[], []], ([], []))"), ("ask 3", "7"))

    def test_weights(self):
        self.assert_answers(("weight dot", "1"), ("weight table", "2*m + 2*m*n"), ("weight seven", "1"), ("weight empty", "0"),
                            ("weight many", "2 + a + 4*b"))
        self.desk.say("load\ndef f k m n (a: row(k, whole), b: row(m, whole), c: row(n, whole), "
                      "d: row(3*n, row(2*m, row(k+n, whole)))) = d\ndef g n (a: row(n, row(n, whole))) = turn(a)")
        self.assert_answers(("weight f", "6*k*m*n + 6*m*n^2"), ("weight g", "n^2"))

    def test_sizes(self):
        self.assert_answers(("sizes dot 5", "1"), ("sizes dot 0", "1"), ("sizes seven", "1"), ("sizes table 2 3", "16"),
                            ("sizes table 3 2", "18"), ("sizes table 0 60", "0"), ("sizes table 60 60", "7320"),
                            ("sizes empty 60", "0"), ("sizes many 1 2", "8"), ("sizes many 2 1", "11"))

    def test_names_that_are_words(self):
        self.desk.say("load\ndef ask () = 1\ndef kind (x: whole) = x\ndef load () = ask()\nask load()")
        self.assert_answers(("kind ask", "-> whole"), ("kind kind", "whole -> whole"), ("weight load", "1"), ("sizes ask", "1"),
                            ("ask 0", "1"))

    def test_no_such_line(self):
        for line in ["", " ", "  ", "\n", "load", "load ", "load x", " load\nask 1", "load \nask 1", "load\tx", "load\r\nask 1", "LOAD\n",
                     "loads\nask 1", "kind", "kind ", "kind  ", " kind dot", "kind  dot", "kind dot ", "kind dot dot", "kind\tdot",
                     "kind\ndot", "Kind dot", "kinds dot", "kind,dot", "ask", "ask ", "ask  0", "ask 0 ", "ask 0 0", " ask 0", "Ask 0",
                     "ask\n0", "asked 0", "weight", "weight ", "weight  dot", "weight dot ", "weight dot 1", "weights dot", "sizes",
                     "sizes ", "sizes  dot", "sizes dot ", "sizes dot  1", "sizes dot 1 ", " sizes dot 1", "size dot 1", "dot", "0",
                     "kind  nothing", "sizes nothing  1", "sizes nothing ", "weight nothing 1", "kind nothing dot", "say", "\u00e4",
                     "kind\u00a0dot", "ask\u30000", "show", "\ud800", "sizes  1"]:
            self.assert_refused(NoLine, line)

    def test_strangers(self):
        for thing in strangers():
            self.assert_refused(NoLine, thing)

    def test_no_def(self):
        for line in ["kind nothing", "kind Dot", "kind 0", "kind n", "kind dot,", "weight nothing", "weight 1", "sizes nothing",
                     "sizes nothing 1", "sizes nothing 01", "sizes nothing 61", "sizes nothing x y z", "sizes 1", "sizes 1 1",
                     "kind plus", "weight ask", "kind (dot)", "kind \u00e4", "kind dot\n"]:
            self.assert_refused(NoName, line)

    def test_numbers(self):
        for line in ["ask x", "ask -1", "ask +1", "ask 00", "ask 01", "ask 0001", "ask 1000", "ask 0000", "ask 1.0", "ask \u0663",
                     "ask \uff10", "ask \u00b2", "ask " + "9" * 5000, "ask 0\n", "ask \n0", "ask 1_0", "ask dot", "ask 0x0", "ask 0,"]:
            self.assert_refused(NoLine, line)
        for line in ["sizes dot", "sizes dot 1 2", "sizes dot x", "sizes dot 01", "sizes dot 00", "sizes dot 61", "sizes dot 999",
                     "sizes dot 1000", "sizes dot 0001", "sizes dot -1", "sizes dot \u0663", "sizes dot 1\n", "sizes seven 0",
                     "sizes table 1", "sizes table 1 2 3", "sizes table 61 1", "sizes table 1 61", "sizes table 1 x",
                     "sizes table 01 1", "sizes dot " + "9" * 5000, "sizes dot 5.", "sizes table 1,2", "sizes table 1, 2"]:
            self.assert_refused(NoLine, line)

    def test_no_ask(self):
        for line in ["ask 4", "ask 10", "ask 60", "ask 61", "ask 999"]:
            self.assert_refused(NoName, line)

    def test_runs_that_are_refused(self):
        self.desk.say("load\n" + show(SEVERAL))
        for again in range(2):
            self.assert_answers(("ask 0", "0"), ("ask 2", "(8, 0)"))
            self.assert_refused(TooLong, "ask 1")
            self.assert_refused(TooGreat, "ask 3")
            self.assert_refused(NoName, "ask 4")

    def test_great_answers(self):
        self.assertEqual(self.desk.say("load\nask loop(i, 31, loop(j, 31, pair(none(whole), mirror(j))))"), "0 1")
        self.assert_answers(("ask 0", "[" + ", ".join(["[" + ", ".join([f"([], {30 - j})" for j in range(31)]) + "]"] * 31) + "]"))


class DesksTest(DeskTest):

    def test_before_any_load(self):
        for line in ["ask 0", "kind f", "weight f", "sizes f", "sizes f 1"]:
            self.assert_refused(NoName, line)
        for line in ["ask x", "kind", "sizes", "load"]:
            self.assert_refused(NoLine, line)

    def test_two_desks_are_apart(self):
        other = Desk()
        self.desk.say("load\nask 1")
        other.say("load\nask 2\nask 3")
        self.assertEqual([self.desk.say("ask 0"), other.say("ask 0"), other.say("ask 1")], ["1", "2", "3"])
        self.assert_refused(NoName, "ask 1")
        self.assert_refused(NoName, "kind f")

    def test_what_is_refused_changes_nothing(self):
        self.desk.say("load\n" + TEXT)
        for line in ["", "ask 9", "ask x", "kind x", "sizes dot", "load", "load\n\n", None]:
            with self.assertRaises(IndexwiseError):
                self.desk.say(line)
        self.assert_answers(("ask 0", "11"), ("ask 3", "7"), ("sizes table 1 1", "4"))


if __name__ == "__main__":
    unittest.main()
