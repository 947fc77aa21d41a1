"""Nodes for a row of pages, for one page, and for two pages together."""

from ullage.errors import NoPage
from ullage.shapes import parent, span
from ullage.whole import is_between


def cover(shape, begin, end):
    if begin < 0 or end > shape[0] or begin > end:
        raise NoPage("these are no pages of the shape")
    nodes = []
    at = begin
    while at < end:
        node = highest_within(shape, at, end)
        nodes.append(node)
        at = span(shape, node)[1]
    return nodes


def highest_within(shape, begin, end):
    # A parent's span holds its child's, so above the first that juts out none fits.
    node = (0, begin)
    above = parent(shape, node)
    while above is not None and lies_within(span(shape, above), begin, end):
        node = above
        above = parent(shape, node)
    return node


def lies_within(pages, begin, end):
    return begin <= pages[0] and pages[1] <= end


def check_page(shape, page):
    if not is_between(page, 0, shape[0] - 1):
        raise NoPage("this is no page of the shape")


def ancestors(shape, page):
    check_page(shape, page)
    nodes = []
    node = (0, page)
    while node is not None:
        nodes.append(node)
        node = parent(shape, node)
    return nodes


def meeting(shape, one, other):
    check_page(shape, one)
    check_page(shape, other)
    level = 0
    left = one
    right = other
    while left != right:
        level = level + 1
        left = left // shape[1]
        right = right // shape[1]
    return (level, left)
