"""Sums of products of names, as tuples of tuples (powers, times), and the weights of kinds."""

from indexwise.lengths import gathered

ONE = (((), 1),)


def of_length(a):
    terms = [(((name, 1),), times) for name, times in a[1]]
    # A count of 0 would stand there with times 0, which no sum has.
    if a[0] > 0:
        terms.append(((), a[0]))
    return gathered(terms)


def together(s, t):
    return gathered(s + t)


def product(s, t):
    terms = []
    for powers, times in s:
        for others, more in t:
            # The powers of one name are added where its products are multiplied.
            terms.append((gathered(powers + others), times * more))
    return gathered(terms)


def weight(kind):
    if kind[0] == "row":
        return product(of_length(kind[1]), weight(kind[2]))
    if kind[0] == "pair":
        return together(weight(kind[1]), weight(kind[2]))
    return ONE


def to_the(base, power):
    total = 1
    # By squares: 0 and 1 have worths to any power, however great.
    while power > 0:
        if power % 2 == 1:
            total = total * base
        base = base * base
        power = power // 2
    return total


def product_worth(powers, numbers):
    total = 1
    for name, power in powers:
        total = total * to_the(numbers.get(name, 0), power)
    return total


def sum_worth(s, numbers):
    return sum([times * product_worth(powers, numbers) for powers, times in s])
