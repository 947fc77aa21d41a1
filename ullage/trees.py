"""Trees: level by level, from the pages up, the list of what each node tells."""

from ullage.errors import NoNode, NotATree, NotRooms
from ullage.shapes import MOST_PAGES, is_counted_node, levels
from ullage.whole import is_between


def is_room(thing):
    return is_between(thing, 0, 10 ** 18)


def checked_rooms(rooms):
    for at, room in enumerate(rooms):
        if at == MOST_PAGES or not is_room(room):
            raise NotRooms(at)
    return list(rooms)


def built(rooms, fan):
    tree = []
    level = list(rooms)
    while len(level) > 1:
        tree.append(level)
        level = level_above(level, fan)
    if level != []:
        tree.append(level)
    return tree


def level_above(level, fan):
    return [max(level[begin:begin + fan]) for begin in range(0, len(level), fan)]


def checked_tree(tree, fan):
    if not is_tree(tree, fan):
        raise NotATree("this is no tree by the fan")
    return copied(tree)


def copied(tree):
    return [list(level) for level in tree]


def is_tree(thing, fan):
    if not isinstance(thing, list) or not all([is_level(level) for level in thing]):
        return False
    shape = shape_of(thing, fan)
    # No shape has more pages, so nothing that stands over more is a tree.
    return shape[0] <= MOST_PAGES and counts_of(thing) == levels(shape)


def is_level(thing):
    return isinstance(thing, list) and all([is_room(number) for number in thing])


def counts_of(tree):
    return [len(level) for level in tree]


def rooms_of(tree):
    if tree == []:
        return []
    return list(tree[0])


def shape_of(tree, fan):
    return (len(rooms_of(tree)), fan)


def fault(tree, fan):
    for level in range(1, len(tree)):
        right = level_above(tree[level - 1], fan)
        for place, number in enumerate(right):
            if tree[level][place] != number:
                return (level, place)
    return None


def has_node(tree, thing):
    return is_counted_node(counts_of(tree), thing)


def check_has_node(tree, thing):
    if not has_node(tree, thing):
        raise NoNode("this is no node of the tree")


def tells(tree, node):
    check_has_node(tree, node)
    return tree[node[0]][node[1]]


def with_told(tree, nodes):
    return [(node[0], node[1], tells(tree, node)) for node in nodes]


def greatest(tree):
    if tree == []:
        return 0
    return tree[-1][0]


def total(tree):
    return sum(rooms_of(tree))
