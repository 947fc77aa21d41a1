"""Papers: a page that a search tells, with the nodes that show it to be the right one."""

from ullage.covers import cover
from ullage.finds import best, first, further, near
from ullage.judge import nearer_pages, pages_up_to
from ullage.shapes import children, top
from ullage.trees import shape_of, tells, with_told


def first_paper(tree, fan, need):
    page = first(tree, fan, need)
    return (page, paper_over(tree, fan, pages_up_to(shape_of(tree, fan), 0, page)))


def further_paper(tree, fan, need, at):
    page = further(tree, fan, need, at)
    return (page, paper_over(tree, fan, pages_up_to(shape_of(tree, fan), at, page)))


def near_paper(tree, fan, need, at):
    page = near(tree, fan, need, at)
    return (page, paper_over(tree, fan, nearer_pages(shape_of(tree, fan), at, page)))


def paper_over(tree, fan, pages):
    return with_told(tree, cover(shape_of(tree, fan), pages[0], pages[1]))


def best_paper(tree, fan, need):
    nodes = nodes_with_each_enough(tree, shape_of(tree, fan), need)
    return (best(tree, fan, need), with_told(tree, nodes))


def nodes_with_each_enough(tree, shape, need):
    if shape[0] == 0:
        return []
    nodes = []
    waiting = [top(shape)]
    while waiting != []:
        node = waiting[0]
        waiting = waiting[1:]
        if node[0] == 0 or tells(tree, node) < need:
            nodes.append(node)
        else:
            # The children come next, so that the nodes come by their begins.
            waiting = children(shape, node) + waiting
    return nodes
