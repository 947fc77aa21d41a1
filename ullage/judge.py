"""Judging papers: by the shape alone whether they show a page, by the tree whether they are honest."""

from ullage.shapes import is_node, span
from ullage.trees import has_node, tells


def shows_first(shape, need, page, paper):
    return rules_out(shape, need, pages_up_to(shape, 0, page), paper)


def shows_further(shape, need, at, page, paper):
    # Where page lies ahead of at, no row of spans from at on ends there, so no paper shows it.
    return rules_out(shape, need, pages_up_to(shape, at, page), paper)


def shows_near(shape, need, at, page, paper):
    return rules_out(shape, need, nearer_pages(shape, at, page), paper)


def pages_up_to(shape, begin, page):
    if page is None:
        return (begin, shape[0])
    return (begin, page)


def nearer_pages(shape, at, page):
    if page is None:
        return (0, shape[0])
    far = abs(page - at)
    if page < at:
        return (page + 1, min(at + far, shape[0]))
    # Of two alike near the lesser one is told, so the one as far ahead must be ruled out too.
    return (max(at - far, 0), page)


def rules_out(shape, need, pages, paper):
    return lies_over(shape, pages, paper) and all([entry[2] < need for entry in paper])


def lies_over(shape, pages, paper):
    reached = pages[0]
    for entry in paper:
        node = (entry[0], entry[1])
        if not is_node(shape, node) or span(shape, node)[0] != reached:
            return False
        reached = span(shape, node)[1]
    return reached == pages[1]


def shows_best(shape, need, page, paper):
    if not lies_over(shape, (0, shape[0]), paper):
        return False
    if not all([entry[2] < need for entry in paper if entry[0] > 0]):
        return False
    return page == best_told(need, paper)


def best_told(need, paper):
    fitting = [entry for entry in paper if entry[0] == 0 and entry[2] >= need]
    if fitting == []:
        return None
    least = min([entry[2] for entry in fitting])
    return [entry[1] for entry in fitting if entry[2] == least][0]


def honest(tree, paper):
    return all([is_true(tree, entry) for entry in paper])


def is_true(tree, entry):
    node = (entry[0], entry[1])
    return has_node(tree, node) and tells(tree, node) == entry[2]
