"""Shapes (pages, fan), and the nodes (level, place) that stand over their pages."""

from ullage.errors import BadShape, NoNode
from ullage.whole import is_between

MOST_PAGES = 200
LEAST_FAN = 2
MOST_FAN = 8


def checked_shape(pages, fan):
    if not is_between(pages, 0, MOST_PAGES):
        raise BadShape("pages are no whole number within the bounds")
    if not is_between(fan, LEAST_FAN, MOST_FAN):
        raise BadShape("the fan is no whole number within the bounds")
    return (pages, fan)


def levels(shape):
    fan = shape[1]
    counts = []
    many = shape[0]
    while many > 1:
        counts.append(many)
        many = (many + fan - 1) // fan
    if many == 1:
        counts.append(many)
    return counts


def is_node(shape, thing):
    return is_counted_node(levels(shape), thing)


def is_counted_node(counts, thing):
    if not isinstance(thing, tuple) or len(thing) != 2:
        return False
    if not is_between(thing[0], 0, len(counts) - 1):
        return False
    return is_between(thing[1], 0, counts[thing[0]] - 1)


def check_node(shape, thing):
    if not is_node(shape, thing):
        raise NoNode("this is no node of the shape")


def span(shape, node):
    check_node(shape, node)
    width = 1
    for level in range(node[0]):
        width = width * shape[1]
    begin = node[1] * width
    # The last node of a level may stand over fewer pages than the others.
    return (begin, min(begin + width, shape[0]))


def parent(shape, node):
    check_node(shape, node)
    if node == top(shape):
        return None
    return (node[0] + 1, node[1] // shape[1])


def children(shape, node):
    check_node(shape, node)
    if node[0] == 0:
        return []
    beneath = node[0] - 1
    begin = node[1] * shape[1]
    end = min(begin + shape[1], levels(shape)[beneath])
    return [(beneath, place) for place in range(begin, end)]


def top(shape):
    counts = levels(shape)
    if counts == []:
        return None
    return (len(counts) - 1, 0)
