"""Points 22 and 23: what is written is read again, and nothing else is read."""

import random
import unittest

from growing import grown_program
from indexwise.errors import IndexwiseError, NoWords
from indexwise.found import Found
from indexwise.reading import read, read_expression, read_kind, read_length
from indexwise.rows import is_row, nodes_of
from indexwise.writing import show, show_expression, show_kind, show_length
from strangers import strangers
from small import number
from written import DEEP_EXPRESSION, DEEP_TEXT, EXPRESSIONS, GREAT_LENGTHS, KINDS, LENGTHS, ROWS

NO_LENGTHS = [
    "", " ", " n", "n ", "n +1", "n+ 1", "n + 1", "(n)", "n+", "+n", "n++1", "1+n", "3+4", "n+3+4", "00", "01", "n+01",
    "02*n", "0*n", "1*n", "n*2", "2n", "2*", "*n", "2*3", "2*n*m", "2**n", "n+0", "n+m", "n+n", "n+2*n", "b+a+c", "a+c+b",
    "n-1", "-1", "+1", "1.0", "1_000", "N", "nN", "abcdefghi", "n1", "n_", "1e3", "0x1", "n\n", "\nn", "n\t", "n+1\n",
    "\u0663", "n+\u0663", "\uff12*n", "\u00b2", "\u00e4", "\u0430", "n\u00a0", "n+\u0661\u0662", "\u2160", "1\u0663", "\u0be7",
    "9" * 61, "9" * 61 + "*n", "n+" + "9" * 61, "1" + "0" * 5000, "0" * 60, "n,m", "whole(n)", "n()", "\x00", "n\x00",
    "\u0131", "\u017f", "\ud800",
]
NO_KINDS = [
    "", "n", "3", "Whole", "whole ", " whole", "whole\n", "whole()", "(whole)", "whole(n)", "place", "place()", "place(n",
    "placen)", "place (n)", "place( n)", "place(n )", "place(n,)", "place(n, n)", "place(n) ", "place(n))", "place((n))",
    "place(whole)()", "place(n+0)", "place(m+m)", "place(100)", "place(100*n)", "place(99*m+100*n)", "place(place(n))",
    "row", "row(n)", "row(n, whole", "row(n,whole)", "row(n,  whole)", "row(n , whole)", "row(n, whole,)", "row(n, whole, whole)",
    "row(whole, n)", "row(100, whole)", "row(n whole)", "row(n, n)", "row[n, whole]", "ROW(n, whole)", "row(n, whole)x",
    "row(n, whole)\n", "row(\u0663, whole)", "row(n\uff0c whole)", "pair(whole)", "pair(whole, whole, whole)",
    "pair(whole whole)", "pair(whole, whole", "pair(, whole)", "pair(whole, )", "pair(n, whole)", "pair(whole, 1)",
    "pair (whole, whole)", "pair(whole,\nwhole)", "pair(whole, pair(whole))", "rows(n, whole)", f"row(1, {DEEP_TEXT})",
    f"pair({DEEP_TEXT}, whole)", "pair(row(100*n, whole), whole)", "first(whole)", "none(whole)", ", ", ")", "(", "()",
    "row(" * 3000 + "whole" + ")" * 3000, "pair(" * 4000, ")" * 4000, "(" * 20000,
]
NO_EXPRESSIONS = [
    "", " ", " x", "x ", "X", "xX", "x1", "1x", "x_", "abcdefghi", "01", "00", "-1", "+1", "1.0", "1_0", "1000000000000",
    "9" * 13, "9" * 60, "9" * 61, "1" + "0" * 5000, "\u0663", "\uff11", "\u00b2", "\u00e4", "x\n", "\nx", "x y", "(x)", "(1)",
    "x()y", "()", "x(", "x)", "f(", "f)", "f(1", "f(1))", "f((1))", "f(1,2)", "f(1,  2)", "f(1 , 2)", "f( 1)", "f(1 )", "f (1)",
    "f(1,)", "f(1, )", "f(, 1)", "f()()", "f(1)(2)", "f(1) ", "f(1)g", "f(1, 2, 3, 4, 5)", "F(1)", "f1(1)", "abcdefghi(1)", "7(1)",
    "number(7)", "number(1)", "name(x)", "reckon(plus, 1, 2)", "call(f)", "call(f, 1)", "call()", "number()", "name()",
    "plus(1)", "plus()", "plus(1, 2, 3)", "minus(1)", "same(1, 2, 3)", "if(1, 2)", "if(1, 2, 3, 4)", "let(x, 1)", "let(1, 1, 1)",
    "let(x(), 1, 2)", "let(x, 1, 2, 3)", "let(X, 1, 2)", "pair(1)", "pair(1, 2, 3)", "first()", "first(1, 2)", "second()",
    "row()", "row(1, 2, 3, 4, 5)", "none()", "none(n)", "none(1)", "none(whole, whole)", "none(row(n))", "none(row(100, whole))",
    f"none(row(1, {DEEP_TEXT}))", "join(1)", "join(1, 2, 3)", "take(n)", "take(x(), 1)", "take(n, x, x)", "take(100, x)",
    "take(n+0, x)", "take(1*n, x)", "take(m+m, x)", "take(x, n, x)", "drop(n)", "drop(100*n, x)", "zip(1)", "zip(1, 2, 3)",
    "turn()", "turn(1, 2)", "get(1)", "get(1, 2, 3)", "place(n)", "place(n, m, k)", "place(n, f())", "place(0, 100)", "value()",
    "value(1, 2)", "up(n)", "up(n, x, x)", "up(n+100, x)", "wide(n)", "wide(f(), x)", "mirror()", "mirror(1, 2)",
    "fork(n, x, y, 1)", "fork(n, x, y, 1, 2, 3)", "fork(n, x, 1, 1, 2)", "fork(f(), x, y, 1, 2)", "fork(n, x, y(), 1, 2)",
    "when(1, n, x, 1)", "when(n+1, n, x, 1, 2)", "when(1, n, 3, 1, 2)", "when(1, n, x, 1, 2, 3)", "when(1, 1+n, x, 1, 2)",
    "loop(i, n)", "loop(1, n, 1)", "loop(i, n, 1, 1)", "loop(i, 100, 1)", "loop(i, n*2, 1)", "loop(i(), n, 1)",
    "fold(i, n, s, 1)", "fold(i, n, i, 1, 2)", "fold(i, n, 1, 1, 2)", "fold(i, n, s, 1, 2, 3)", "fold(i, s, 1, 2)",
    "length()", "length(n, n)", "length(100)", "length(n+100)", "length(f())", "length(n+m)", "length( n)", "length(1000*n)",
    "plus (1, 2)", "plus(1,2)", "plus(1, 2", "plus 1 2", "1+2", "plus(1; 2)", "plus(1\uff0c 2)", "plus(1,\u00a02)", "plus(1,\t2)",
    "plus(1,\n2)", "f(1\n)", f"first({DEEP_EXPRESSION})", "first(" * 8 + "1" + ")" * 8, "first(" * 3000 + "1" + ")" * 3000,
    "first(" * 3000, "(" * 20000, ")" * 20000, "," * 20000, ", " * 10000, "f(" + ", ".join(["1"] * 6000) + ")",
    "pair(row(1, 2, 3, 4), x", "f(1, 2]", "[1, 2]", "\x00", "\ud800", "f(\ud800)",
]
NO_ROWS = [
    " ", "ask", "ask ", "ask  1", " ask 1", "ask 1 ", "ask\t1", "ASK 1", "ask1", "asks 1", "ask 01", "ask 1, 2", "ask (1)", "1", "f()",
    "def", "def ", "def f = 1", "def f() = 1", "def f ()= 1", "def f () =1", "def f () =  1", "def f () = ", "def f () =", "def f ()",
    "def f () = 1 ", " def f () = 1", "def  f () = 1", "def f  () = 1", "Def f () = 1", "def f () == 1", "def f ( ) = 1", "def () = 1",
    "def (x: whole) = x", "def f ((x: whole)) = x", "def f (x: whole) = x)", "def f (x:whole) = x", "def f (x : whole) = x",
    "def f (x:  whole) = x", "def f (x) = x", "def f (x: ) = x", "def f (: whole) = 1", "def f (whole) = 1", "def f (x: whole,) = x",
    "def f (x: whole,y: whole) = x", "def f (x: whole, ) = x", "def f (x: whole y: whole) = x", "def f (x: whole; y: whole) = x",
    "def f (X: whole) = 1", "def f (x: n) = 1", "def f (x: row(n)) = 1", "def f (x: row(n, whole) = 1", "def f x: whole = 1",
    "def f (x: whole)) = 1", "def f (x: place(100)) = 1", "def f (a: whole, b: whole, c: whole, d: whole, e: whole) = 1",
    "def f a b c d e () = 1", "def f m, n () = 1", "def f m  n () = 1", "def f N () = 1", "def f n1 () = 1", "def f 1 () = 1",
    "def F () = 1", "def abcdefghi () = 1", "def if () = 1", "def row () = 1", "def plus () = 1", "def fold () = 1", "def call () = 1",
    "def name () = 1", "def f () = plus(1)", "def f () = 100 0", "def f () = length(100)", "def f () = 1 = 2", "def f () = 1) = 2",
    "def f (x: whole: whole) = 1", "def f (x: y: whole) = 1", "def f (()) = 1", "def f (x: whole(), y: whole) = 1", "def f n = n",
    "ask ask 1", "ask def f () = 1", "def f () = ask 1", "def f () = 9" + "0" * 12, "# ask 1", "ask 1 # x", "ask 1;", "ask 1\r",
    "def f (x: \u00e4) = 1", "ask \u0663", "def f () =\u00a01", f"def f (x: row(1, {DEEP_TEXT})) = 1", f"ask first({DEEP_EXPRESSION})",
    "ask " + "first(" * 3000, "def f (" + "x: row(n, " * 2000, "def f (" * 2500, "\x00", "\ud800", "ask 1\x0b", "ask 1\x0c", "ask 1\u2028",
]


class NoWordsTest(unittest.TestCase):

    def refused(self, reader, thing):
        """The place at which it is refused."""
        with self.assertRaises(IndexwiseError) as taken:
            reader(thing)
        self.assertEqual(taken.exception.__class__, NoWords)
        return taken.exception.place


class ReadingTest(NoWordsTest):

    def assert_read(self, reader, things):
        for thing, text in things:
            self.assertEqual(reader(text), thing)

    def assert_none_read(self, reader, texts):
        for text in texts:
            try:
                self.assertEqual(self.refused(reader, text), (0, 0))
            except AssertionError as fault:
                raise AssertionError(f"{text[:60]!r}: {fault}")

    def test_lengths(self):
        self.assert_read(read_length, LENGTHS + GREAT_LENGTHS)
        self.assert_none_read(read_length, NO_LENGTHS)

    def test_kinds(self):
        self.assert_read(read_kind, KINDS)
        self.assert_none_read(read_kind, NO_KINDS)

    def test_expressions(self):
        self.assert_read(read_expression, EXPRESSIONS)
        self.assert_none_read(read_expression, NO_EXPRESSIONS)

    def test_names_and_words_are_told_apart(self):
        for word in ["length", "number", "name", "call", "reckon", "none", "fold", "def", "same", "place"]:
            self.assertEqual(read_expression(word), ("name", word))

    def test_forty_nodes_and_one_more(self):
        four = "f(1, 1, 1, 1)"
        text = f"pair(row({four}, {four}, {four}, f(1, 1, 1)), row({four}, {four}, {four}, f(1, 1)))"
        self.assertEqual(len(nodes_of(read_expression(text))), 40)
        self.assertEqual(self.refused(read_expression, text.replace("f(1, 1)", "f(1, 1, 1)")), (0, 0))

    def test_strangers(self):
        for thing in [each for each in strangers() if not isinstance(each, str)]:
            for reader in [read_length, read_kind, read_expression, read]:
                self.assertEqual(self.refused(reader, thing), (0, 0))

    def test_strange_texts(self):
        for thing in [each for each in strangers() if isinstance(each, str) and each != ""]:
            for reader in [read_length, read_kind, read_expression, read]:
                self.assertEqual(self.refused(reader, thing), (0, 0))


class ProgramsTest(NoWordsTest):

    def test_rows(self):
        for each, text in ROWS:
            self.assertEqual(read(text), [each])

    def test_none_to_twelve_rows(self):
        rows = ROWS + ROWS
        for count in range(13):
            program, texts = [each for each, text in rows[:count]], [text for each, text in rows[:count]]
            self.assertEqual(read("\n".join(texts)), program)
            self.assertIsInstance(read("\n".join(texts)), list)

    def test_thirteen_rows(self):
        self.assertEqual(self.refused(read, "\n".join(["ask 1"] * 13)), (0, 0))
        self.assertEqual(self.refused(read, "\n".join(["ask 1"] * 12 + ["ask"])), (0, 0))
        self.assertEqual(self.refused(read, "\n".join(["ask"] * 13)), (0, 0))
        self.assertEqual(self.refused(read, "\n".join(["ask 1"] * 12) + "\n"), (0, 0))
        self.assertEqual(self.refused(read, "\n" * 20000), (0, 0))

    def test_what_writes_no_row(self):
        for text in NO_ROWS:
            try:
                self.assertEqual(self.refused(read, text), (0, 0))
                self.assertEqual(self.refused(read, "ask 1\n" + text), (1, 0))
                self.assertEqual(self.refused(read, "ask 1\n" * 4 + text + "\nask 01"), (4, 0))
            except AssertionError as fault:
                raise AssertionError(f"{text[:60]!r}: {fault}")

    def test_the_last_row(self):
        self.assertEqual(self.refused(read, "ask 1\n" * 11 + "ask"), (11, 0))

    def test_line_feeds(self):
        self.assertEqual(read(""), [])
        self.assertEqual(self.refused(read, "\n"), (0, 0))
        self.assertEqual(self.refused(read, "ask 1\n"), (1, 0))
        self.assertEqual(self.refused(read, "ask 1\n\nask 2"), (1, 0))
        self.assertEqual(self.refused(read, "\nask 1"), (0, 0))
        self.assertEqual(self.refused(read, "ask 1\r\nask 2"), (0, 0))
        self.assertEqual(self.refused(read, "ask 1\rask 2"), (0, 0))

    def test_what_is_refused_later_is_read(self):
        for text in ["ask x", "def f n () = 1", "def f (x: whole, x: whole) = f(x)\ndef f (x: place(n)) = length(n)",
                     "ask get(1, 2)"]:
            program = read(text)
            self.assertTrue(all(is_row(each) for each in program))
            with self.assertRaises(IndexwiseError):
                Found(program)

    def test_each_time_a_new_list(self):
        text = "ask 1\nask 2"
        read(text).append(("ask", number(3)))
        self.assertEqual(read(text), [("ask", number(1)), ("ask", number(2))])


class GrownTextsTest(unittest.TestCase):

    SEEDS = range(50)

    def test_what_is_written_is_read_again(self):
        for seed in self.SEEDS:
            program = grown_program(f"text {seed}")
            self.assertEqual(read(show(program)), program)
            for each in program:
                self.assertEqual(read_expression(show_expression(each[-1])), each[-1])
                for x, kind in (each[3] if each[0] == "def" else ()):
                    self.assertEqual(read_kind(show_kind(kind)), kind)

    def spoiled(self, source, text):
        """The text with a sign or two another, more or fewer."""
        for times in range(source.choice([1, 1, 2])):
            at, sign = source.randrange(len(text) + 1), source.choice(" ,()+*:=\n0123nmxfrowpair")
            text = source.choice([text[:at] + sign + text[at:], text[:at] + sign + text[at + 1:], text[:at] + text[at + 1:]])
        return text

    def test_whatever_is_read_is_written_just_so(self):
        told = {True: 0, False: 0}
        for seed in self.SEEDS:
            source = random.Random(f"spoil {seed}")
            text = show(grown_program(f"text {seed}"))
            for again in range(60):
                other = self.spoiled(source, text)
                try:
                    program = read(other)
                    self.assertEqual(show(program), other)
                    self.assertTrue(all(is_row(each) for each in program))
                    told[True] += 1
                except NoWords as refusal:
                    self.assertEqual(refusal.place[1], 0)
                    # The rows ahead of the one that writes none are read.
                    read("\n".join(other.split("\n")[:refusal.place[0]]))
                    told[False] += 1
        self.assertGreater(min(told.values()), 300)

    def test_spoiled_lengths_and_kinds(self):
        source = random.Random("lengths and kinds")
        for reader, shower, things in [(read_length, show_length, LENGTHS), (read_kind, show_kind, KINDS)]:
            for again in range(4000):
                text = self.spoiled(source, source.choice(things)[1])
                try:
                    self.assertEqual(shower(reader(text)), text)
                except NoWords as refusal:
                    self.assertEqual(refusal.place, (0, 0))


if __name__ == "__main__":
    unittest.main()
