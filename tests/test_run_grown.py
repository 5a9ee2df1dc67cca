"""3 (a) and (e), tried on programs that were grown at random: each value that is come to is of the kind told of it, and
the bare code comes to the same, laid flat, in as many steps."""

import functools
import random
import unittest

from drawing import NoneThere, drawn_numbers, drawn_value
from growing import grown_program
from indexwise.bareruns import BareRun
from indexwise.errors import IndexwiseError, TooGreat, TooLong
from indexwise.found import Found
from indexwise.kinds import is_value
from indexwise.layout import laid, raised
from indexwise.making import made
from indexwise.plainruns import PlainRun
from indexwise.rows import nodes_of
from indexwise.sums import sum_worth, weight

SEEDS = range(150)


@functools.lru_cache(maxsize=None)
def found_program(seed):
    return Found(grown_program(seed))


class Watched(PlainRun):
    """A plain runner that tells of each value whether it is of the kind told of it."""

    def __init__(self, found):
        PlainRun.__init__(self, found)
        self.seen, self.words = 0, {}

    def come_to(self, part, room):
        value = PlainRun.come_to(self, part, room)
        if not is_value(part[1], room.numbers, value):
            raise AssertionError(f"{value} is not of {part[1]} by {room.numbers}")
        self.seen += 1
        self.words[part[0][0]] = self.words.get(part[0][0], 0) + 1
        return value


def kind_of_ask(found, k):
    asks = [number for number, row in enumerate(found.rows()) if row[0] == "ask"]
    return found.kind_at(asks[k], 1)


class KindsOfValuesTest(unittest.TestCase):

    def assert_kind(self, kind, numbers, told):
        self.assertTrue(is_value(kind, numbers, told[0]))
        self.assertEqual(len(laid(told[0])), sum_worth(weight(kind), numbers))
        self.assertIn(told[1], range(1001))

    def do_all(self, found, run, source):
        """How many were done, refused."""
        done = refused = 0
        for f in [row[1] for row in found.rows() if row[0] == "def"]:
            names, kinds, result = found.told(f)
            for most in [1, 3, 3, 8, 60]:
                numbers = drawn_numbers(source, names, most)
                try:
                    args = [drawn_value(source, kind, numbers) for kind in kinds]
                    self.assert_kind(result, numbers, run.done(f, numbers, args))
                    done += 1
                except NoneThere:
                    continue
                except (TooLong, TooGreat) as refusal:
                    self.assertIsNone(refusal.place)
                    refused += 1
        return done, refused

    def ask_all(self, found, run):
        count = len([row for row in found.rows() if row[0] == "ask"])
        for k in range(count):
            try:
                self.assert_kind(kind_of_ask(found, k), {}, run.asked(k))
            except (TooLong, TooGreat) as refusal:
                self.assertIsNone(refusal.place)
        return count

    def test_programs(self):
        done = refused = asked = seen = 0
        words = {}
        for seed in SEEDS:
            found = found_program(seed)
            run = Watched(found)
            more = self.do_all(found, run, random.Random(f"run {seed}"))
            done, refused = done + more[0], refused + more[1]
            asked += self.ask_all(found, run)
            seen += run.seen
            for word, times in run.words.items():
                words[word] = words.get(word, 0) + times
        # Else little was tried here.
        self.assertGreater(done, 1000)
        self.assertGreater(refused, 10)
        self.assertGreater(asked, 200)
        self.assertGreater(seen, 30000)
        self.assertEqual(len(words), 27, sorted(words))
        self.assertGreater(min(words.values()), 20, words)

    def test_grown_defs_are_called(self):
        called = {}
        for seed in SEEDS:
            for each in found_program(seed).rows():
                for node in nodes_of(each[-1]):
                    if node[0] == "call":
                        called[node[1]] = called.get(node[1], 0) + 1
        self.assertGreater(called.get("p", 0) + called.get("q", 0), 20)


def told_or_refused(run):
    """What the run tells, or the class with which it is refused."""
    try:
        return run()
    except IndexwiseError as refusal:
        return (refusal.__class__, refusal.place)


class BareTest(unittest.TestCase):

    def setUp(self):
        self.met = {}

    def assert_alike(self, kind, numbers, plain, bare):
        if isinstance(plain[0], type):
            self.assertEqual(bare, plain)
            self.met[plain[0]] = self.met.get(plain[0], 0) + 1
        else:
            self.assertEqual(bare, (laid(plain[0]), plain[1]))
            self.assertEqual(raised(kind, numbers, bare[0]), plain[0])
            self.met["told"] = self.met.get("told", 0) + 1

    def do_one(self, found, plain, bare, f, source, most):
        names, kinds, result = found.told(f)
        numbers = drawn_numbers(source, names, most)
        try:
            args = [drawn_value(source, kind, numbers) for kind in kinds]
        except NoneThere:
            return
        flats = [laid(arg) for arg in args]
        if max([len(flat) for flat in flats]) <= 1000:
            self.assert_alike(result, numbers, told_or_refused(lambda: plain.done(f, numbers, args)),
                              told_or_refused(lambda: bare.done(f, numbers, flats)))

    def test_programs(self):
        for seed in SEEDS:
            found = found_program(seed)
            plain, bare, source = PlainRun(found), BareRun(made(found)), random.Random(f"bare {seed}")
            for f in [row[1] for row in found.rows() if row[0] == "def"]:
                for most in [0, 2, 3, 5, 40, 60, 60]:
                    self.do_one(found, plain, bare, f, source, most)
            for k in range(len([row for row in found.rows() if row[0] == "ask"])):
                self.assert_alike(kind_of_ask(found, k), {}, told_or_refused(lambda: plain.asked(k)),
                                  told_or_refused(lambda: bare.asked(k)))
        # Else little was tried here.
        self.assertGreater(self.met["told"], 2000)
        self.assertGreater(self.met.get(TooLong, 0), 50)
        self.assertGreater(self.met.get(TooGreat, 0), 20)
        self.assertEqual(set(self.met), {"told", TooLong, TooGreat})


if __name__ == "__main__":
    unittest.main()
