"""Searches for many empty pages in a row, with papers that show them to be right."""

from ullage.blocks import blocks, joined, stretches
from ullage.judge import honest, lies_over
from ullage.papers import paper_over
from ullage.shapes import span


def row_first(empties, fan, many):
    if many < 1 and empties != []:
        # From each page on no empty pages at all stand in a row, so it is the first of all.
        return 0
    fitting = rows_of_at_least(empties, many)
    if fitting == []:
        return None
    return fitting[0][0]


def row_best(empties, fan, many):
    fitting = rows_of_at_least(empties, many)
    if fitting == []:
        return None
    shortest = min([row[1] - row[0] for row in fitting])
    return [row[0] for row in fitting if row[1] - row[0] == shortest][0]


def rows_of_at_least(empties, many):
    return [row for row in stretches(empties) if row[1] - row[0] >= many]


def row_paper(empties, fan, many):
    page = row_first(empties, fan, many)
    pages = pages_ahead(len(empties), many, page)
    return (page, paper_over(blocks(empties, fan), fan, pages))


def pages_ahead(pages, many, page):
    # A row that came earlier would have its last page ahead of the last page of this one.
    if page is None:
        return (0, pages)
    return (0, max(page + many - 1, 0))


def row_shows(shape, many, page, paper):
    if not lies_over(shape, pages_ahead(shape[0], many, page), paper):
        return False
    if not all([entry[2][0] == width(shape, entry) for entry in paper]):
        return False
    return longest_told(paper) < many


def width(shape, entry):
    pages = span(shape, (entry[0], entry[1]))
    return pages[1] - pages[0]


def longest_told(paper):
    block = (0, 0, 0, 0)
    for entry in paper:
        block = joined(block, entry[2])
    return block[3]


def row_honest(empties, fan, paper):
    return honest(blocks(empties, fan), paper)
