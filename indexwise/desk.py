"""The desk: lines told, each of them answered with a text."""

from indexwise.bareruns import BareRun
from indexwise.errors import NoLine, NoName
from indexwise.found import Found
from indexwise.layout import raised
from indexwise.making import made
from indexwise.reading import number_of, read
from indexwise.sums import sum_worth, weight
from indexwise.writing import show_kind, show_sum, show_value

LOAD = "load\n"
MOST_FIGURES = 3
GREATEST_GIVEN = 60


def number_told(word):
    number = number_of(word)
    # Written back, so that a nought ahead shows.
    if number is None or len(word) > MOST_FIGURES or str(number) != word:
        raise NoLine()
    return number


def answer_kind(desk, words):
    told = desk.told_of(words[1])
    params = [", ".join([show_kind(kind) for kind in told[1]])] if told[1] != () else []
    return " ".join(params + ["->", show_kind(told[2])])


def answer_ask(desk, words):
    k = number_told(words[1])
    # Refused, where there is no such ask, ahead of its kind.
    flat = desk.runner.asked(k)[0]
    kind = desk.kind_of_ask(k)
    return show_value(kind, raised(kind, {}, flat))


def answer_weight(desk, words):
    return show_sum(weight(desk.told_of(words[1])[2]))


def answer_sizes(desk, words):
    told = desk.told_of(words[1])
    given = [number_told(word) for word in words[2:]]
    if len(given) != len(told[0]) or any([number > GREATEST_GIVEN for number in given]):
        raise NoLine()
    return str(sum_worth(weight(told[2]), dict(zip(told[0], given))))


ANSWERS = {
    "kind": answer_kind,
    "ask": answer_ask,
    "weight": answer_weight,
    "sizes": answer_sizes,
}


def words_of(line):
    words = line.split(" ")
    # A blank too many leaves a word without signs.
    if "" in words or words[0] not in ANSWERS or len(words) < 2:
        raise NoLine()
    if len(words) > 2 and words[0] != "sizes":
        raise NoLine()
    return words


class Desk:

    def __init__(self):
        self.found = Found([])
        self.runner = BareRun(made(self.found))

    def say(self, line):
        if not isinstance(line, str):
            raise NoLine()
        if line.startswith(LOAD):
            return self.load(line[len(LOAD):])
        words = words_of(line)
        answer = ANSWERS[words[0]]
        return answer(self, words)

    def load(self, text):
        found = Found(read(text))
        # Only now: what is refused changes nothing.
        self.found = found
        self.runner = BareRun(made(found))
        words = [row[0] for row in found.rows()]
        defs = words.count("def")
        asks = words.count("ask")
        return f"{defs} {asks}"

    def told_of(self, f):
        told = self.found.told(f)
        if told is None:
            raise NoName()
        return told

    def kind_of_ask(self, k):
        asks = [number for number, row in enumerate(self.found.rows()) if row[0] == "ask"]
        return self.found.kind_at(asks[k], 1)
