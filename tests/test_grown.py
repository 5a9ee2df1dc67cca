"""What point 3 promises of kinds, tried on programs that were grown at random."""

import functools
import unittest

from growing import DEFS, JOIN, TABLE, Grower, grown
from indexwise.errors import IndexwiseError, Parts, TooGreat
from indexwise.found import Found
from indexwise.kinds import kind_put, names_in
from indexwise.lengths import exceeding, is_length, names_of, parting, put, worth
from indexwise.rows import is_expression, nodes_of
from small import A, M, N, ZERO, row, size

SEEDS = range(400)


@functools.lru_cache(maxsize=None)
def sample(seed):
    """Params' kinds and an expression with what is known of it; its names of lengths are m and n."""
    grower = Grower(f"params {seed}", ["m", "n"])
    scope = {"u": row(M), "v": row(N), "a": grower.kind(2), "b": grower.kind(1)}
    return (scope,) + grown(seed, ["m", "n"], 2, 3, scope, DEFS)


def program_of(scope, expression):
    return [JOIN, TABLE, ("def", "f", ("m", "n"), tuple(scope.items()), expression)]


def put_in(thing, places):
    """The expression with lengths put in for the names of lengths."""
    if is_length(thing):
        return put(thing, places)
    if isinstance(thing, tuple) and thing[:1] == ("none",):
        return ("none", kind_put(thing[1], places))
    if isinstance(thing, tuple):
        return tuple(put_in(each, places) for each in thing)
    return thing


def paths_to_lengths(thing):
    if is_length(thing):
        yield ()
    elif isinstance(thing, tuple) and thing[:1] != ("none",):
        for index, each in enumerate(thing):
            for path in paths_to_lengths(each):
                yield (index,) + path


def replaced(thing, path, new):
    if path == ():
        return new
    return thing[:path[0]] + (replaced(thing[path[0]], path[1:], new),) + thing[path[0] + 1:]


class KnownKindsTest(unittest.TestCase):

    def test_each_node_has_the_kind_that_was_known_ahead(self):
        words, let = {}, 0
        for seed in SEEDS:
            scope, kind, expression, kinds = sample(seed)
            self.assertTrue(is_expression(expression))
            try:
                found = Found(program_of(scope, expression))
            except TooGreat:
                continue
            let += 1
            self.assertEqual([found.kind_at(2, 1 + k) for k in range(len(kinds))], kinds, expression)
            self.assertEqual(found.told("f"), (("m", "n"), tuple(scope.values()), kind))
            for node in nodes_of(expression):
                words[node[0]] = words.get(node[0], 0) + 1
        # Else little was tried here.
        self.assertGreater(let, 300)
        self.assertEqual(len(words), 27, sorted(words))
        self.assertGreater(min(words.values()), 2, words)
        self.assertGreater(words["call"], 20)

    def test_just_calls_bind(self):
        for seed in SEEDS:
            scope, kind, expression, kinds = sample(seed)
            try:
                found = Found(program_of(scope, expression))
            except TooGreat:
                continue
            names = {"g": ("n", "m"), "h": ("n",)}
            for number, node in enumerate(nodes_of(expression), start=1):
                if node[0] != "call":
                    self.assertIsNone(found.binds_at(2, number))
                else:
                    places = dict(zip(names[node[1]], found.binds_at(2, number)))
                    self.assertEqual(kind_put(found.told(node[1])[2], places), kinds[number - 1])
                    self.assertEqual(kind_put(found.told(node[1])[1][1], places), self.last_arg(found, number, node))

    def last_arg(self, found, number, node):
        return found.kind_at(2, number + 1 + len(nodes_of(node[2][0])))


class PutInTest(unittest.TestCase):
    """3 (c): what is told of a def stays so whatever lengths are put for its names."""

    LENGTHS = [(size(), size(1)), (size(2), size(3)), (size(k=1), size(1, j=1)), (size(2, j=1, k=2), size(k=1)),
               (size(j=1), size(j=1)), (size(4, j=3), size())]

    def test_the_call_and_the_expression_put_in(self):
        tried = 0
        for seed in SEEDS:
            scope, kind, expression, kinds = sample(seed)
            m, n = self.LENGTHS[seed % len(self.LENGTHS)]
            places = {"m": m, "n": n}
            try:
                called = Found(program_of(scope, expression) + [self.calling(scope, places)])
                self.assertEqual(called.binds_at(3, 1), (m, n))
                self.assertEqual(called.kind_at(3, 1), kind_put(kind, places))
                inner = Found([JOIN, TABLE, self.in_place(scope, places, put_in(expression, places))])
            except TooGreat:
                continue
            tried += 1
            # Ahead of it stand four lets, two loops with a number each, and two names.
            self.assertEqual([inner.kind_at(2, 11 + k) for k in range(len(kinds))],
                             [kind_put(each, places) for each in kinds])
            self.assertEqual(inner.told("e")[2], called.kind_at(3, 1))
        self.assertGreater(tried, 250)

    def params(self, scope, places):
        j, k = size(j=1), size(k=1)
        return (("c", row(j)), ("d", row(k)), ("p", kind_put(scope["a"], places)), ("q", kind_put(scope["b"], places)))

    def args(self, places):
        return [("loop", "i", places["m"], ZERO), ("loop", "i", places["n"], A), ("name", "p"), ("name", "q")]

    def calling(self, scope, places):
        return ("def", "e", ("j", "k"), self.params(scope, places), ("call", "f", tuple(self.args(places))))

    def in_place(self, scope, places, expression):
        for x, arg in reversed(list(zip("uvab", self.args(places)))):
            expression = ("let", x, arg, expression)
        return ("def", "e", ("j", "k"), self.params(scope, places), expression)


class PartsTest(unittest.TestCase):
    """3 (b): where a program is refused because two lengths part they are told, with numbers for which they do."""

    def spoiled(self, expression, seed):
        """The expression with one of its lengths another one."""
        grower = Grower(f"spoil {seed}", ["m", "n"])
        paths = list(paths_to_lengths(expression))
        return replaced(expression, grower.random.choice(paths), grower.length()) if paths else expression

    def test_the_numbers(self):
        met = 0
        for seed in SEEDS:
            scope, kind, expression, kinds = sample(seed)
            try:
                Found(program_of(scope, self.spoiled(expression, seed)))
            except Parts as refusal:
                met += 1
                self.assert_told(refusal)
                self.assertEqual(refusal.place[0], 2)
                self.assertIn(refusal.place[1], range(1, 1 + len(kinds)))
            except IndexwiseError:
                pass
        self.assertGreater(met, 60)

    def assert_told(self, refusal):
        one, other, numbers = refusal.one, refusal.other, refusal.numbers
        self.assertNotEqual(worth(one, numbers), worth(other, numbers))
        self.assertEqual(sorted(numbers), sorted(set(names_of(one) + names_of(other))))
        self.assertIn(numbers, [parting(one, other), exceeding(one, other)])


class SampleTest(unittest.TestCase):

    def test_no_name_but_the_defs(self):
        for seed in SEEDS[:50]:
            for kind in sample(seed)[3]:
                self.assertLessEqual(set(names_in(kind)), {"m", "n"})


if __name__ == "__main__":
    unittest.main()
