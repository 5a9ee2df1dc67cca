"""The bare runner: every value is a list of whole numbers, and no kind is at hand."""

from indexwise.runs import Run, hold_count, shared_doer
from indexwise.sums import sum_worth


def behind_one_another(lists):
    whole = []
    for each in lists:
        whole.extend(each)
    return whole


def cut(flat, start, count):
    return flat[start:start + count]


def do_size(run, code, room):
    return [sum_worth(code[1], room.numbers)]


def do_lay(run, code, room):
    return behind_one_another([run.come_to(part, room) for part in code[1]])


def do_part(run, code, room):
    flat = run.come_to(code[3], room)
    return cut(flat, sum_worth(code[1], room.numbers), sum_worth(code[2], room.numbers))


def do_weave(run, code, room):
    one = run.come_to(code[4], room)
    other = run.come_to(code[5], room)
    wide = sum_worth(code[2], room.numbers)
    broad = sum_worth(code[3], room.numbers)
    woven = []
    for k in range(sum_worth(code[1], room.numbers)):
        woven.extend(cut(one, k * wide, wide))
        woven.extend(cut(other, k * broad, broad))
    return woven


def do_turn(run, code, room):
    flat = run.come_to(code[4], room)
    rows = sum_worth(code[1], room.numbers)
    things = sum_worth(code[2], room.numbers)
    wide = sum_worth(code[3], room.numbers)
    turned = []
    for thing in range(things):
        for row in range(rows):
            turned.extend(cut(flat, (row * things + thing) * wide, wide))
    return turned


def do_pick(run, code, room):
    flat = run.come_to(code[2], room)
    place = run.whole_of(run.come_to(code[3], room))
    wide = sum_worth(code[1], room.numbers)
    return cut(flat, place * wide, wide)


BARE_DOERS = {
    "size": do_size,
    "lay": do_lay,
    "part": do_part,
    "weave": do_weave,
    "turn": do_turn,
    "pick": do_pick,
}


class BareRun(Run):

    def come_to(self, code, room):
        doer = BARE_DOERS[code[0]] if code[0] in BARE_DOERS else shared_doer(code[0])
        flat = doer(self, code, room)
        hold_count(len(flat))
        return flat

    def count_of(self, code, flat, room):
        return len(flat)

    def of_whole(self, number):
        return [number]

    def whole_of(self, flat):
        return flat[0]

    def row_of(self, things):
        return behind_one_another(things)

    def done(self, f, numbers, flats):
        function = self.function_of(f)
        # Copies, for a code that is a name alone tells the very list that it stands for.
        return self.gone(function[2], numbers, dict(zip(function[1], [list(flat) for flat in flats])))
