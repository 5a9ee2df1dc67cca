"""Lengths: sums of names and numbers, as tuples (count, parts)."""

LONGEST_NAME = 8


def is_whole(thing):
    # Python takes True and False for numbers; the document doesn't.
    return isinstance(thing, int) and not isinstance(thing, bool)


def is_name(thing):
    if not isinstance(thing, str) or not 1 <= len(thing) <= LONGEST_NAME:
        return False
    # Not islower or isalpha: these let letters beyond a to z through.
    return all(["a" <= sign <= "z" for sign in thing])


def is_part(thing):
    if not isinstance(thing, tuple) or len(thing) != 2:
        return False
    return is_name(thing[0]) and is_whole(thing[1]) and thing[1] >= 1


def are_parts(thing):
    if not isinstance(thing, tuple):
        return False
    last = ""
    for part in thing:
        if not is_part(part) or part[0] <= last:
            return False
        last = part[0]
    return True


def is_length(thing):
    if not isinstance(thing, tuple) or len(thing) != 2:
        return False
    return is_whole(thing[0]) and thing[0] >= 0 and are_parts(thing[1])


def of_number(n):
    return (n, ())


def of_name(name, times=1):
    if times == 0:
        return (0, ())
    return (0, ((name, times),))


def gathered(parts):
    total = {}
    for key, times in parts:
        total[key] = total.get(key, 0) + times
    return tuple(sorted(total.items()))


def added(a, b):
    return (a[0] + b[0], gathered(a[1] + b[1]))


def often(a, n):
    # A part taken 0 times would stand there with times 0, which no length has.
    if n == 0:
        return (0, ())
    return (a[0] * n, tuple([(name, times * n) for name, times in a[1]]))


def less(a, b):
    if exceeding(b, a) is not None:
        return None
    taken = dict(b[1])
    left = [(name, times - taken.get(name, 0)) for name, times in a[1]]
    return (a[0] - b[0], tuple([part for part in left if part[1] > 0]))


def put(a, places):
    total = of_number(a[0])
    for name, times in a[1]:
        total = added(total, often(places.get(name, of_name(name)), times))
    return total


def worth(a, numbers):
    return a[0] + sum([times * numbers.get(name, 0) for name, times in a[1]])


def names_of(a):
    return [name for name, times in a[1]]


def noughts(a, b):
    numbers = {}
    for name in sorted(set(names_of(a) + names_of(b))):
        numbers[name] = 0
    return numbers


def parting(a, b):
    numbers = noughts(a, b)
    if a[0] != b[0]:
        return numbers
    one = dict(a[1])
    other = dict(b[1])
    for name in list(numbers):
        if one.get(name, 0) != other.get(name, 0):
            numbers[name] = 1
            return numbers
    return None


def exceeding(a, b):
    numbers = noughts(a, b)
    if a[0] > b[0]:
        return numbers
    other = dict(b[1])
    for name, times in a[1]:
        gain = times - other.get(name, 0)
        if gain > 0:
            # Each one more of the name gains so much on what the count lags behind.
            numbers[name] = (b[0] - a[0]) // gain + 1
            return numbers
    return None
