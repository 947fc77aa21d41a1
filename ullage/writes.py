"""Writes, one node after another: an order in which they may be stopped, and the walk that mends."""

from ullage.changes import changed, unlike
from ullage.trees import built, check_has_node, copied, level_above, rooms_of, tells


def done(tree, writes):
    after = copied(tree)
    for write in writes:
        check_has_node(after, (write[0], write[1]))
        after[write[0]][write[1]] = write[2]
    return after


def is_safe(tree, fan):
    for level in range(1, len(tree)):
        for place, least in enumerate(level_above(tree[level - 1], fan)):
            if tree[level][place] < least:
                return False
    return True


def ordered(tree, fan, page, room):
    writes = changed(tree, fan, page, room)[1]
    if room > tree[0][page]:
        # A node must never tell less than one beneath it, so the ones above grow first.
        return list(reversed(writes))
    return writes


def mended(tree, fan):
    after = built(rooms_of(tree), fan)
    mends = [(node[0], node[1], tells(tree, node), tells(after, node)) for node in unlike(tree, after)]
    return (after, mends)
