"""A def whose names m and n are bound by its first two params, for the tests of what is found of an expression."""

import unittest

from indexwise import errors
from indexwise.found import Found
from small import M, N, row

# Stands for nothing anywhere, so it shows by its place how far the walk came.
NOTHING = ("name", "nothing")


def defined(e, *kinds, f="f"):
    """def F m n (u: row(m, whole), v: row(n, whole), a: .., b: ..) = E"""
    params = (("u", row(M)), ("v", row(N))) + tuple(zip("ab", kinds))
    return ("def", f, ("m", "n"), params, e)


class DefTest(unittest.TestCase):

    def refusal(self, program):
        with self.assertRaises(errors.IndexwiseError) as taken:
            Found(program)
        return taken.exception

    def assert_kind(self, kind, e, *kinds):
        found = Found([defined(e, *kinds)])
        self.assertEqual(found.kind_at(0, 1), kind)
        self.assertEqual(found.told("f"), (("m", "n"), (row(M), row(N)) + kinds, kind))

    def assert_kinds(self, all_kinds, e, *kinds):
        found = Found([defined(e, *kinds)])
        self.assertEqual([found.kind_at(0, 1 + k) for k in range(len(all_kinds))], all_kinds)

    def assert_refused(self, error, node, e, *kinds):
        refusal = self.refusal([defined(e, *kinds)])
        self.assertEqual((refusal.__class__, refusal.place), (error, (0, node)))

    def assert_parts(self, node, one, other, numbers, e, *kinds):
        self.assert_refused(errors.Parts, node, e, *kinds)
        refusal = self.refusal([defined(e, *kinds)])
        self.assertEqual((refusal.one, refusal.other, refusal.numbers), (one, other, numbers))
