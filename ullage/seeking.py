"""A search through a tree that may tell wrongly: it mends what leads it astray as it goes."""

from ullage.shapes import children, top
from ullage.trees import copied, shape_of, tells


def seek(tree, fan, rooms, need):
    after = copied(tree)
    mends = []
    node = lowest_enough(after, fan, need)
    while node is not None and beneath(after, fan, rooms, node) < need:
        now = beneath(after, fan, rooms, node)
        mends.append((node[0], node[1], tells(after, node), now))
        after[node[0]][node[1]] = now
        node = lowest_enough(after, fan, need)
    if node is None:
        return (None, after, mends)
    # A node above level 0 is left only where something enough stands beneath it, so this is a page.
    return (node[1], after, mends)


def lowest_enough(tree, fan, need):
    shape = shape_of(tree, fan)
    lowest = None
    nodes = [] if shape[0] == 0 else [top(shape)]
    fitting = [node for node in nodes if tells(tree, node) >= need]
    while fitting != []:
        lowest = fitting[0]
        fitting = [node for node in children(shape, lowest) if tells(tree, node) >= need]
    return lowest


def beneath(tree, fan, rooms, node):
    if node[0] == 0:
        return rooms[node[1]]
    return max([tells(tree, child) for child in children(shape_of(tree, fan), node)])
