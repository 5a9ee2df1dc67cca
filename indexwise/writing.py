"""Lengths, kinds, expressions, programs, values and sums of products as texts."""

from indexwise.rows import SHAPES


def show_part(name, times):
    return name if times == 1 else f"{times}*{name}"


def show_length(a):
    parts = [show_part(name, times) for name, times in a[1]]
    if a[0] != 0 or parts == []:
        parts.append(str(a[0]))
    return "+".join(parts)


def in_brackets(word, texts):
    inner = ", ".join(texts)
    return f"{word}({inner})"


def show_kind(kind):
    if kind[0] == "place":
        return in_brackets("place", [show_length(kind[1])])
    if kind[0] == "row":
        return in_brackets("row", [show_length(kind[1]), show_kind(kind[2])])
    if kind[0] == "pair":
        return in_brackets("pair", [show_kind(kind[1]), show_kind(kind[2])])
    return "whole"


def show_behind(sort, given):
    if sort == "length":
        return show_length(given)
    if sort == "kind":
        return show_kind(given)
    if sort == "part":
        return show_expression(given)
    return given


def show_all(expressions):
    return [show_expression(each) for each in expressions]


def show_expression(expression):
    word = expression[0]
    if word == "number":
        return str(expression[1])
    if word == "name":
        return expression[1]
    if word == "call":
        return in_brackets(expression[1], show_all(expression[2]))
    if word == "reckon":
        return in_brackets(expression[1], show_all(expression[2:]))
    if word == "row":
        return in_brackets("row", show_all(expression[1]))
    return in_brackets(word, [show_behind(sort, given) for sort, given in zip(SHAPES[word], expression[1:])])


def show_param(x, kind):
    shown = show_kind(kind)
    return f"{x}: {shown}"


def show_row(row):
    expression = show_expression(row[-1])
    if row[0] == "ask":
        return f"ask {expression}"
    head = " ".join(["def", row[1]] + list(row[2]))
    params = in_brackets("", [show_param(x, kind) for x, kind in row[3]])
    return f"{head} {params} = {expression}"


def show(program):
    return "\n".join([show_row(row) for row in program])


def show_value(kind, value):
    if kind[0] == "row":
        inner = ", ".join([show_value(kind[2], thing) for thing in value])
        return f"[{inner}]"
    if kind[0] == "pair":
        return in_brackets("", [show_value(kind[1], value[0]), show_value(kind[2], value[1])])
    return str(value)


def show_power(name, power):
    return name if power == 1 else f"{name}^{power}"


def show_product(powers, times):
    factors = [show_power(name, power) for name, power in powers]
    if times != 1 or factors == []:
        factors.insert(0, str(times))
    return "*".join(factors)


def show_sum(s):
    if s == ():
        return "0"
    return " + ".join([show_product(powers, times) for powers, times in s])
