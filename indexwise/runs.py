"""What both runners share: steps, bounds, and the words that go alike on plain values and on flat ones."""

from indexwise.errors import NoName, TooGreat, TooLong
from indexwise.kinds import WHOLE_BOUND
from indexwise.sums import sum_worth

MOST_STEPS = 1000
MOST_NUMBERS = 1000
GREATEST_BOUND = 100


def hold_count(count):
    if count > MOST_NUMBERS:
        raise TooGreat()


def reckoned(word, one, other):
    if word == "plus":
        return (one + other) % WHOLE_BOUND
    if word == "minus":
        return (one - other) % WHOLE_BOUND
    if word == "times":
        return (one * other) % WHOLE_BOUND
    if word == "less":
        return 1 if one < other else 0
    return 1 if one == other else 0


def do_number(run, code, room):
    return run.of_whole(code[1])


def do_name(run, code, room):
    return room.known[code[1]]


def do_reckon(run, code, room):
    one = run.come_to(code[2], room)
    other = run.come_to(code[3], room)
    return run.of_whole(reckoned(code[1], run.whole_of(one), run.whole_of(other)))


def do_if(run, code, room):
    number = run.whole_of(run.come_to(code[1], room))
    return run.come_to(code[2] if number != 0 else code[3], room)


def do_let(run, code, room):
    value = run.come_to(code[2], room)
    return run.come_to(code[3], room.having({code[1]: value}))


def do_mirror(run, code, room):
    place = run.whole_of(run.come_to(code[2], room))
    return run.of_whole(sum_worth(code[1], room.numbers) - 1 - place)


def do_fork(run, code, room):
    place = run.whole_of(run.come_to(code[2], room))
    bound = sum_worth(code[1], room.numbers)
    if place < bound:
        return run.come_to(code[4], room.having({code[3]: run.of_whole(place)}))
    return run.come_to(code[5], room.having({code[3]: run.of_whole(place - bound)}))


def do_when(run, code, room):
    number = run.whole_of(run.come_to(code[1], room))
    if number < sum_worth(code[2], room.numbers):
        return run.come_to(code[4], room.having({code[3]: run.of_whole(number)}))
    return run.come_to(code[5], room)


def do_loop(run, code, room):
    things = []
    count = 0
    for place in range(sum_worth(code[2], room.numbers)):
        run.take_step()
        thing = run.come_to(code[3], room.having({code[1]: run.of_whole(place)}))
        things.append(thing)
        count += run.count_of(code[3], thing, room)
        hold_count(count)
    return run.row_of(things)


def do_fold(run, code, room):
    value = run.come_to(code[4], room)
    for place in range(sum_worth(code[2], room.numbers)):
        run.take_step()
        value = run.come_to(code[5], room.having({code[1]: run.of_whole(place), code[3]: value}))
    return value


def do_call(run, code, room):
    values = [run.come_to(part, room) for part in code[3]]
    worths = [sum_worth(s, room.numbers) for s in code[2]]
    if any([number > GREATEST_BOUND for number in worths]):
        raise TooGreat()
    run.take_step()
    function = run.functions[code[1]]
    return run.come_to(function[2], Room(dict(zip(function[0], worths)), dict(zip(function[1], values))))


DOERS = {
    "number": do_number,
    "name": do_name,
    "reckon": do_reckon,
    "if": do_if,
    "let": do_let,
    "mirror": do_mirror,
    "fork": do_fork,
    "when": do_when,
    "loop": do_loop,
    "fold": do_fold,
    "call": do_call,
}


def shared_doer(word):
    return DOERS[word]


# Where a code is come to: the numbers for names of lengths and the values for names of values.
class Room:

    def __init__(self, numbers, known):
        self.numbers = numbers
        self.known = known

    def having(self, more):
        known = dict(self.known)
        known.update(more)
        return Room(self.numbers, known)


# A runner over a coded program. What its values are is told by the runners that stand under it: come_to (of a part of
# a code), count_of, of_whole, whole_of and row_of.
class Run:

    def __init__(self, program):
        self.functions = dict(program[0])
        self.asks = list(program[1])
        self.steps = 0

    def take_step(self):
        self.steps += 1
        if self.steps > MOST_STEPS:
            raise TooLong()

    def gone(self, part, numbers, known):
        # The steps of what was run before, or refused on its way, don't count.
        self.steps = 0
        value = self.come_to(part, Room(dict(numbers), known))
        return (value, self.steps)

    def function_of(self, f):
        if f not in self.functions:
            raise NoName()
        return self.functions[f]

    def asked(self, k):
        if not 0 <= k < len(self.asks):
            raise NoName()
        return self.gone(self.asks[k], {}, {})
