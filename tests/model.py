"""A second telling of shapes, by lists of pages alone, to hold the program against."""

SHAPES = [(pages, fan) for fan in (2, 3, 5, 8) for pages in list(range(0, 20)) + [25, 27, 28]]
WIDE_SHAPES = [(200, 2), (200, 3), (199, 7), (200, 8)]
ODD_THINGS = [True, False, "", "1", "a text", [], [1], [0, 0], (), (1,), (2, 2), {}, {1: 1}, None]


def rows_of_pages(shape):
    """Level by level, for each node the list of the pages beneath it."""
    pages, fan = shape
    if pages == 0:
        return []
    rows = [[[page] for page in range(pages)]]
    while len(rows[-1]) > 1:
        beneath = rows[-1]
        groups = [beneath[k:k + fan] for k in range(0, len(beneath), fan)]
        rows.append([[page for held in group for page in held] for group in groups])
    return rows


def pages_by_node(shape):
    """Each node with the list of the pages beneath it, by levels, then by places."""
    return {
        (level, place): held
        for level, row in enumerate(rows_of_pages(shape))
        for place, held in enumerate(row)
    }


def things_that_are_no_nodes(shape):
    rows = rows_of_pages(shape)
    things = list(ODD_THINGS)
    things.remove((2, 2))
    things += [(0, 0, 0), ("0", 0), (0, "0"), (None, 0), (0, None), ([], 0), (0, []), ({}, {}), ((0, 0),)]
    things += [((0, 0), (0, 0)), (False, 0), (0, False), (False, False), (True, 0), (0, True), (True, True)]
    things += [[level, 0] for level in range(len(rows))]
    things += [(-1, 0), (-10 ** 59, 0), (len(rows), 0), (len(rows) + 1, 0), (10 ** 59, 0)]
    for level in range(-1, len(rows) + 1):
        many = len(rows[level]) if 0 <= level < len(rows) else 0
        things += [(level, -1), (level, -many - 1), (level, -10 ** 59)]
        things += [(level, many), (level, many + 1), (level, 10 ** 59)]
    return things
