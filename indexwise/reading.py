"""Texts read again as the lengths, kinds, expressions and programs that are written so.

What stands where nothing can be read is read as None, which is no part of anything; and a text may be read as a thing
that is written otherwise. So whatever is read is told only if it is one, and is written just so.
"""

from indexwise.errors import NoWords
from indexwise.kinds import is_kind
from indexwise.lengths import is_length
from indexwise.rows import MOST_ROWS, RECKONS, SHAPES, is_expression, is_row
from indexwise.writing import show_expression, show_kind, show_length, show_row

MOST_FIGURES = 60
# At most 8 nodes of an expression stand within one another, and in the innermost one a kind of size 12.
MOST_BRACKETS = 20


# A text on which one goes forward.
class Signs:

    def __init__(self, text):
        self.text = text
        self.at = 0

    def met(self, signs):
        if not self.text.startswith(signs, self.at):
            return False
        self.at += len(signs)
        return True

    def next_word(self):
        start = self.at
        while self.at < len(self.text) and self.text[self.at] not in ("(", ",", ")"):
            self.at += 1
        return self.text[start:self.at]

    # A tuple (word, what stands in its brackets), None where it has none.
    def branch(self, most):
        word = self.next_word()
        if most == 0 or not self.met("("):
            return (word, None)
        inner = []
        if not self.met(")"):
            inner.append(self.branch(most - 1))
            while self.met(", "):
                inner.append(self.branch(most - 1))
            self.met(")")
        return (word, inner)


def branch_of(text):
    return Signs(text).branch(MOST_BRACKETS)


def number_of(word):
    if not 1 <= len(word) <= MOST_FIGURES:
        return None
    # Not isdigit: this lets figures of other scripts through.
    if not all(["0" <= sign <= "9" for sign in word]):
        return None
    return int(word)


def part_of(text):
    halves = text.split("*")
    if len(halves) == 2:
        return (halves[1], number_of(halves[0]))
    return (text, 1)


def length_of(text):
    texts = text.split("+")
    count = number_of(texts[-1])
    if count is None:
        return (0, tuple([part_of(each) for each in texts]))
    return (count, tuple([part_of(each) for each in texts[:-1]]))


def word_alone(branch):
    return branch[0] if branch[1] is None else None


def length_in(branch):
    return length_of(branch[0]) if branch[1] is None else None


def kind_in(branch):
    word = branch[0]
    inner = branch[1]
    if inner is None:
        return (word,)
    if word == "place" and len(inner) == 1:
        return ("place", length_in(inner[0]))
    if word == "row" and len(inner) == 2:
        return ("row", length_in(inner[0]), kind_in(inner[1]))
    if word == "pair" and len(inner) == 2:
        return ("pair", kind_in(inner[0]), kind_in(inner[1]))
    return None


def thing_in(sort, branch):
    if sort == "length":
        return length_in(branch)
    if sort == "kind":
        return kind_in(branch)
    if sort == "name":
        return word_alone(branch)
    return expression_in(branch)


def atom_of(word):
    number = number_of(word)
    return ("name", word) if number is None else ("number", number)


def expression_in(branch):
    word = branch[0]
    inner = branch[1]
    if inner is None:
        return atom_of(word)
    if word in RECKONS:
        return ("reckon", word) + tuple([expression_in(each) for each in inner])
    if word == "row":
        return ("row", tuple([expression_in(each) for each in inner]))
    if word in SHAPES:
        return (word,) + tuple([thing_in(sort, each) for sort, each in zip(SHAPES[word], inner)])
    return ("call", word, tuple([expression_in(each) for each in inner]))


def param_in(branch):
    halves = branch[0].partition(": ")
    return (halves[0], kind_in((halves[2], branch[1])))


def def_of(text):
    halves = text.partition(" (")
    words = halves[0].split(" ")
    sides = halves[2].partition(") = ")
    params = branch_of("(" + sides[0] + ")")[1]
    return ("def", words[0], tuple(words[1:]), tuple([param_in(each) for each in params]), expression_of(sides[2]))


def row_of_text(text):
    if text.startswith("ask "):
        return ("ask", expression_of(text[4:]))
    if text.startswith("def "):
        return def_of(text[4:])
    return None


def kind_of_text(text):
    return kind_in(branch_of(text))


def expression_of(text):
    return expression_in(branch_of(text))


def just_so(text, reader, is_one, shower, place):
    if isinstance(text, str):
        thing = reader(text)
        if is_one(thing) and shower(thing) == text:
            return thing
    raise NoWords(place)


def read_length(text):
    return just_so(text, length_of, is_length, show_length, (0, 0))


def read_kind(text):
    return just_so(text, kind_of_text, is_kind, show_kind, (0, 0))


def read_expression(text):
    return just_so(text, expression_of, is_expression, show_expression, (0, 0))


def read_row(text, number):
    return just_so(text, row_of_text, is_row, show_row, (number, 0))


def read(text):
    if not isinstance(text, str):
        raise NoWords((0, 0))
    if text == "":
        return []
    rows = text.split("\n")
    if len(rows) > MOST_ROWS:
        raise NoWords((0, 0))
    return [read_row(row, number) for number, row in enumerate(rows)]
