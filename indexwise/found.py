"""A program whose kinds are found, for all numbers at once, or which is refused."""

from indexwise.finding import Walk
from indexwise.rows import checked


class Found:

    def __init__(self, program):
        self.program = checked(program)
        self.defs = {}
        self.walks = []
        for number, row in enumerate(self.program):
            if row[0] == "def":
                self.find_def(number, row)
            else:
                self.find_kinds(number, (), {}, row[1])

    def find_kinds(self, number, names, scope, expression):
        walk = Walk(number, names, self.defs)
        self.walks.append(walk)
        return walk.kind_of(expression, scope)

    def find_def(self, number, row):
        names = row[2]
        params = row[3]
        result = self.find_kinds(number, names, dict(params), row[4])
        # Only now: a def stands for rows behind it, not for its own.
        self.defs[row[1]] = (names, tuple([kind for x, kind in params]), result)

    def rows(self):
        return list(self.program)

    def told(self, f):
        return self.defs.get(f)

    def kind_at(self, row, node):
        return self.walks[row].kinds[node]

    def binds_at(self, row, node):
        return self.walks[row].binds.get(node)
