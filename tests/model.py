"""A second telling of shapes and trees, by lists of pages alone, to hold the program against."""

SHAPES = [(pages, fan) for fan in (2, 3, 5, 8) for pages in list(range(0, 20)) + [25, 27, 28]]
WIDE_SHAPES = [(200, 2), (200, 3), (199, 7), (200, 8)]
FANS = range(2, 9)
MOST = 10 ** 18
ODD_THINGS = [True, False, "", "1", "a text", [], [1], [0, 0], (), (1,), (2, 2), {}, {1: 1}, None]


def rows_of_pages(shape):
    """Level by level, for each node the list of the pages beneath it."""
    pages, fan = shape
    if pages == 0:
        return []
    rows = [[[page] for page in range(pages)]]
    while len(rows[-1]) > 1:
        beneath = rows[-1]
        groups = [beneath[k:k + fan] for k in range(0, len(beneath), fan)]
        rows.append([[page for held in group for page in held] for group in groups])
    return rows


def pages_by_node(shape):
    """Each node with the list of the pages beneath it, by levels, then by places."""
    return {
        (level, place): held
        for level, row in enumerate(rows_of_pages(shape))
        for place, held in enumerate(row)
    }


def things_that_are_no_nodes(shape):
    rows = rows_of_pages(shape)
    things = list(ODD_THINGS)
    things.remove((2, 2))
    things += [(0, 0, 0), ("0", 0), (0, "0"), (None, 0), (0, None), ([], 0), (0, []), ({}, {}), ((0, 0),)]
    things += [((0, 0), (0, 0)), (False, 0), (0, False), (False, False), (True, 0), (0, True), (True, True)]
    things += [[level, 0] for level in range(len(rows))]
    things += [(-1, 0), (-10 ** 59, 0), (len(rows), 0), (len(rows) + 1, 0), (10 ** 59, 0)]
    for level in range(-1, len(rows) + 1):
        many = len(rows[level]) if 0 <= level < len(rows) else 0
        things += [(level, -1), (level, -many - 1), (level, -10 ** 59)]
        things += [(level, many), (level, many + 1), (level, 10 ** 59)]
    return things


def cover_by_words(nodes, begin, end):
    """The nodes within the pages that have no parent within, by their begins."""
    within = [node for node, pages in nodes.items() if begin <= pages[0] and pages[-1] < end]
    told = []
    for node in within:
        above = [one for one in within if one[0] == node[0] + 1 and nodes[node][0] in nodes[one]]
        if not above:
            told.append(node)
    return sorted(told, key=lambda node: nodes[node][0])


def ends_by_begin(nodes):
    """For each page the ends of the spans of these nodes that begin there."""
    ends = {}
    for pages in nodes.values():
        ends.setdefault(pages[0], []).append(pages[-1] + 1)
    return ends


def fewest_nodes(ends, begin, end):
    """For each page from begin to end, how many nodes at least have just the pages from it up to end."""
    fewest = {end: 0}
    for page in range(end - 1, begin - 1, -1):
        fewest[page] = 1 + min(fewest[stop] for stop in ends[page] if stop <= end)
    return fewest


def room_lists(pages):
    """Rooms for so many pages: alike, rising, falling, mixed, great, and a single one among noughts."""
    lists = [
        [0] * pages,
        [5] * pages,
        list(range(pages)),
        list(range(pages, 0, -1)),
        [(7 * page * page + 3 * page) % 11 for page in range(pages)],
        [(5 * page + page // 3) % 4 for page in range(pages)],
        [MOST - (13 * page) % 7 for page in range(pages)],
        [9 if page == pages // 2 else 0 for page in range(pages)],
    ]
    return [rooms for k, rooms in enumerate(lists) if rooms not in lists[:k]]


def many_rooms(counts=(0, 1, 2, 3, 4, 7, 9, 13, 17)):
    return [rooms for pages in counts for rooms in room_lists(pages)]


def needs_for(rooms):
    """0, each room, one less and one more, and what is above all."""
    needs = {0, 1, MOST, MOST + 1, 10 ** 59}
    for room in rooms:
        needs |= {max(room - 1, 0), room, room + 1}
    return sorted(needs)


def tree_by_pages(rooms, fan):
    """The whole tree: for each node the greatest room of the pages beneath it."""
    return [[max(rooms[page] for page in held) for held in row] for row in rows_of_pages((len(rooms), fan))]


def numbers_beyond(pages):
    return (-1, -2, -pages - 1, -10 ** 59, pages, pages + 1, 2 * pages + 1, 10 ** 59)


def things_that_are_no_rooms(most=MOST):
    return ODD_THINGS + [-1, -most, -10 ** 59, most + 1, 2 * most + 1, 10 ** 59]


def pages_enough(rooms, need):
    return [page for page in range(len(rooms)) if rooms[page] >= need]


def page_by(pages, key):
    """The page with the least key, of several the first; None of no pages."""
    return min(pages, key=lambda page: (key(page), page)) if pages else None


def searches(rooms, need):
    """What the searches without a page to begin at tell, by a plain look at all rooms."""
    pages = pages_enough(rooms, need)
    return {
        "first": page_by(pages, lambda page: page),
        "last": page_by(pages, lambda page: -page),
        "best": page_by(pages, lambda page: rooms[page]),
        "worst": page_by(pages, lambda page: -rooms[page]),
    }


def searches_at(rooms, need, at):
    pages = pages_enough(rooms, need)
    return {
        "further": page_by([page for page in pages if page >= at], lambda page: page),
        "round_from": page_by(pages, lambda page: (page < at, page)),
        "near": page_by(pages, lambda page: abs(page - at)),
    }


def ruled_out_further(pages, at, page):
    """The pages that must be ruled out for page to be the first one from at on."""
    return [one for one in range(at, pages) if page is None or one < page]


def ruled_out_near(pages, at, page):
    """The pages that must be ruled out for page to be the nearest one to at."""
    if page is None:
        return list(range(pages))
    nearer = [one for one in range(pages) if abs(one - at) < abs(page - at)]
    as_far = [one for one in range(pages) if page > at > one and at - one == page - at]
    return as_far + nearer


def questions_beyond_the_pages():
    """Trees, fans and needs, each with a number that is no page of the tree."""
    for fan in FANS:
        for rooms in many_rooms((0, 1, 2, 9)) + [[5] * 200]:
            tree = tree_by_pages(rooms, fan)
            for at in numbers_beyond(len(rooms)):
                for need in (0, 5, 10 ** 59):
                    yield tree, fan, need, at


def mixed_numbers(seed, many, most):
    """So many numbers from 0 to most, without order, the same ones for the same seed."""
    numbers = []
    state = seed * 7919 + 12345
    for _ in range(many):
        state = (state * 1103515245 + 12345) % 2 ** 31
        numbers.append((state >> 8) % (most + 1))
    return numbers


def children_by_pages(nodes, node):
    """The nodes one level beneath whose pages lie beneath this one."""
    return [one for one in nodes if one[0] == node[0] - 1 and nodes[one][0] in nodes[node]]


def told_by_node(tree):
    return {(level, place): told for level, row in enumerate(tree) for place, told in enumerate(row)}


def tree_by_node(told):
    """The tree, as lists, of a dict with what each node tells."""
    return [[told[node] for node in sorted(told) if node[0] == level] for level in sorted({node[0] for node in told})]


def any_tree(seed, pages, fan, most):
    """A tree of numbers without order, so seldom a whole one."""
    return [mixed_numbers(seed + level, len(row), most) for level, row in enumerate(rows_of_pages((pages, fan)))]


def safe_tree(seed, rooms, fan, most):
    """A tree in which each page tells its room or somewhat more, each other node its children or more."""
    nodes = pages_by_node((len(rooms), fan))
    told = {}
    for node, more in zip(nodes, mixed_numbers(seed, len(nodes), most)):
        beneath = [told[child] for child in children_by_pages(nodes, node)] or [rooms[node[1]]]
        told[node] = max(beneath) + more
    return tree_by_node(told)
