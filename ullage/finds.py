"""Searches for a page that is enough for a need."""

from ullage.covers import check_page, cover
from ullage.shapes import children
from ullage.trees import greatest, rooms_of, shape_of, tells
from ullage.walks import walked


def first(tree, fan, need):
    return first_from(tree, fan, need, 0)


def first_from(tree, fan, need, begin):
    walk = walked(tree, fan, need, begin)
    if walk == [] or tells(tree, walk[-1]) < need:
        return None
    return walk[-1][1]


def last(tree, fan, need):
    return last_ahead(tree, fan, need, shape_of(tree, fan)[0])


def last_ahead(tree, fan, need, end):
    shape = shape_of(tree, fan)
    node = last_enough(tree, need, cover(shape, 0, end))
    while node is not None and node[0] > 0:
        node = last_enough(tree, need, children(shape, node))
    if node is None:
        return None
    return node[1]


def last_enough(tree, need, nodes):
    for node in reversed(nodes):
        if tells(tree, node) >= need:
            return node
    return None


def further(tree, fan, need, at):
    check_page(shape_of(tree, fan), at)
    return first_from(tree, fan, need, at)


def round_from(tree, fan, need, at):
    page = further(tree, fan, need, at)
    if page is None:
        return first(tree, fan, need)
    return page


def near(tree, fan, need, at):
    behind = further(tree, fan, need, at)
    ahead = last_ahead(tree, fan, need, at)
    if ahead is None:
        return behind
    if behind is None or at - ahead <= behind - at:
        return ahead
    return behind


def best(tree, fan, need):
    rooms = rooms_of(tree)
    fitting = [room for room in rooms if room >= need]
    if fitting == []:
        return None
    return rooms.index(min(fitting))


def worst(tree, fan, need):
    most = greatest(tree)
    if most < need:
        return None
    return first(tree, fan, most)
