"""The plain runner: values as they are told, rows and pairs as tuples."""

from indexwise.coding import program_coded, shared_code
from indexwise.errors import NoValue
from indexwise.kinds import is_value
from indexwise.layout import count_in
from indexwise.lengths import worth
from indexwise.runs import Run, hold_count, shared_doer
from indexwise.sums import sum_worth


# A part of a plain code is a tuple (code, kind).
def plain_part(point, parts):
    return (shared_code(point, parts), point.kind)


def do_worth(run, code, room):
    return sum_worth(code[1], room.numbers)


def do_same(run, code, room):
    return run.come_to(code[1], room)


def do_wide(run, code, room):
    return run.come_to(code[2], room)


def do_up(run, code, room):
    return run.come_to(code[2], room) + sum_worth(code[1], room.numbers)


def do_pair(run, code, room):
    one = run.come_to(code[1], room)
    other = run.come_to(code[2], room)
    return (one, other)


def do_first(run, code, room):
    return run.come_to(code[1], room)[0]


def do_second(run, code, room):
    return run.come_to(code[1], room)[1]


def do_row(run, code, room):
    return tuple([run.come_to(part, room) for part in code[1]])


def do_none(run, code, room):
    return ()


def do_join(run, code, room):
    one = run.come_to(code[1], room)
    other = run.come_to(code[2], room)
    return one + other


def do_take(run, code, room):
    return run.come_to(code[2], room)[:sum_worth(code[1], room.numbers)]


def do_drop(run, code, room):
    return run.come_to(code[2], room)[sum_worth(code[1], room.numbers):]


def do_zip(run, code, room):
    one = run.come_to(code[1], room)
    other = run.come_to(code[2], room)
    return tuple(zip(one, other))


def do_turn(run, code, room):
    table = run.come_to(code[1], room)
    # Of a table of no rows the kind alone tells how long they are.
    inner = code[1][1][2]
    return tuple([tuple([row[k] for row in table]) for k in range(worth(inner[1], room.numbers))])


def do_get(run, code, room):
    row = run.come_to(code[1], room)
    return row[run.come_to(code[2], room)]


PLAIN_DOERS = {
    "length": do_worth,
    "place": do_worth,
    "value": do_same,
    "up": do_up,
    "wide": do_wide,
    "pair": do_pair,
    "first": do_first,
    "second": do_second,
    "row": do_row,
    "none": do_none,
    "join": do_join,
    "take": do_take,
    "drop": do_drop,
    "zip": do_zip,
    "turn": do_turn,
    "get": do_get,
}


class PlainRun(Run):

    def __init__(self, found):
        Run.__init__(self, program_coded(found, plain_part))
        self.found = found

    def come_to(self, part, room):
        code = part[0]
        doer = PLAIN_DOERS[code[0]] if code[0] in PLAIN_DOERS else shared_doer(code[0])
        value = doer(self, code, room)
        hold_count(self.count_of(part, value, room))
        return value

    def count_of(self, part, value, room):
        # By its kind, for a value may hold many rows without a number in them.
        return count_in(part[1], room.numbers)

    def of_whole(self, number):
        return number

    def whole_of(self, value):
        return value

    def row_of(self, things):
        return tuple(things)

    def done(self, f, numbers, args):
        function = self.function_of(f)
        kinds = self.found.told(f)[1]
        if len(args) != len(kinds):
            raise NoValue()
        for kind, arg in zip(kinds, args):
            if not is_value(kind, numbers, arg):
                raise NoValue()
        return self.gone(function[2], numbers, dict(zip(function[1], args)))
