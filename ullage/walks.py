"""The walk of a search: at which nodes it looks, in order."""

from ullage.covers import cover
from ullage.shapes import children
from ullage.trees import shape_of, tells


def walked(tree, fan, need, begin):
    shape = shape_of(tree, fan)
    walk = []
    nodes = cover(shape, begin, shape[0])
    while nodes != []:
        looks = up_to_enough(tree, need, nodes)
        walk.extend(looks)
        if tells(tree, looks[-1]) < need:
            return walk
        nodes = children(shape, looks[-1])
    return walk


def up_to_enough(tree, need, nodes):
    looks = []
    for node in nodes:
        looks.append(node)
        if tells(tree, node) >= need:
            return looks
    return looks
