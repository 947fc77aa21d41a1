"""Lists of truths, one for each page that is empty or isn't, for the tests of blocks and of rows."""

import itertools

from model import mixed_numbers


def all_empties(most):
    return [list(empties) for many in range(most + 1) for empties in itertools.product((True, False), repeat=many)]


def long_empties():
    """Many pages: all alike, by turns, in rows of many lengths, without order."""
    lists = [[True] * 200, [False] * 200, [k % 2 == 0 for k in range(200)], [k % 2 == 1 for k in range(199)]]
    lists.append([empty for many in range(1, 14) for empty in [True] * many + [False]])
    lists.append([empty for many in range(1, 14) for empty in [False] * many + [True]])
    lists.append([True] * 90 + [False] + [True] * 109)
    lists += [[number > 0 for number in mixed_numbers(seed, 200, seed + 1)] for seed in range(4)]
    return lists


def block_by_look(empties):
    """The block, by a look at the rows of signs that full pages part."""
    rows = "".join("e" if empty else "." for empty in empties).split(".")
    return (len(empties), len(rows[0]), len(rows[-1]), max(len(row) for row in rows))


def stretches_by_look(empties):
    pages = range(len(empties) + 1)
    return [
        (begin, end) for begin in pages for end in pages
        if begin < end and all(empties[begin:end])
        and (begin == 0 or not empties[begin - 1]) and (end == len(empties) or not empties[end])
    ]


def row_first_by_look(empties, many):
    for page in range(len(empties) - many + 1):
        if all(empties[page:page + many]):
            return page
    return None
