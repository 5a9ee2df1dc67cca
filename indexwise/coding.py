"""Codes: expressions with sums for their lengths and codes for their parts, so that no kind is to be found any more."""

from indexwise.rows import SHAPES, nodes_of, parts_of
from indexwise.sums import of_length


# A node with what was found of it: its kind, what it binds, and the kinds of its parts.
class Point:

    def __init__(self, node, kind, binds, kinds):
        self.node = node
        self.kind = kind
        self.binds = binds
        self.kinds = kinds


def code_as_it_is(node, codes):
    items = [node[0]]
    left = list(codes)
    for sort, given in zip(SHAPES[node[0]], node[1:]):
        if sort == "part":
            items.append(left.pop(0))
        elif sort == "things":
            items.append(tuple(left))
        elif sort == "length":
            items.append(of_length(given))
        else:
            items.append(given)
    return tuple(items)


def shared_code(point, codes):
    node = point.node
    if node[0] == "call":
        return ("call", node[1], tuple([of_length(length) for length in point.binds]), tuple(codes))
    if node[0] == "mirror":
        return ("mirror", of_length(point.kind[1]), codes[0])
    return code_as_it_is(node, codes)


def coded(found, row, expression, make):
    nodes = nodes_of(expression)
    # From the last node on: the codes of a node's parts lie ready then, the leftmost on top.
    ready = []
    for number in range(len(nodes), 0, -1):
        node = nodes[number - 1]
        parts = [ready.pop() for part in parts_of(node)]
        kind = found.kind_at(row, number)
        point = Point(node, kind, found.binds_at(row, number), [part[0] for part in parts])
        ready.append((kind, make(point, [part[1] for part in parts])))
    return ready[0][1]


def program_coded(found, make):
    functions = {}
    asks = []
    for number, row in enumerate(found.rows()):
        if row[0] == "ask":
            asks.append(coded(found, number, row[1], make))
        else:
            functions[row[1]] = (row[2], tuple([x for x, kind in row[3]]), coded(found, number, row[4], make))
    return (functions, asks)
