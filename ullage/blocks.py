"""Rows of empty pages: a block (many, ahead, behind, longest) tells of some pages side by side."""

from ullage.shapes import levels, span


def block_of(empties):
    block = (0, 0, 0, 0)
    for empty in empties:
        block = joined(block, (1, 1, 1, 1) if empty else (1, 0, 0, 0))
    return block


def joined(one, other):
    ahead = one[1]
    if one[1] == one[0]:
        ahead = one[0] + other[1]
    behind = other[2]
    if other[2] == other[0]:
        behind = other[0] + one[2]
    return (one[0] + other[0], ahead, behind, max(one[3], other[3], one[2] + other[1]))


def blocks(empties, fan):
    shape = (len(empties), fan)
    told = []
    for level, many in enumerate(levels(shape)):
        spans = [span(shape, (level, place)) for place in range(many)]
        told.append([block_of(empties[pages[0]:pages[1]]) for pages in spans])
    return told


def stretches(empties):
    rows = []
    begin = 0
    for page, empty in enumerate(empties):
        if not empty:
            if begin < page:
                rows.append((begin, page))
            begin = page + 1
    if begin < len(empties):
        rows.append((begin, len(empties)))
    return rows
