import unittest

from asking import Asking
from empties import all_empties, block_by_look, long_empties, row_first_by_look, stretches_by_look
from model import FANS, cover_by_words, pages_by_node
from ullage.longest import row_best, row_first, row_honest, row_paper, row_shows


def lengths_for(empties):
    return sorted({1, 2, 3, len(empties) - 1, len(empties), len(empties) + 1, 199, 200, 201, 10 ** 59} - {0, -1})


def paper_by_words(empties, fan, begin, end):
    """The nodes of the cover of these pages, each with the block of its own pages."""
    nodes = pages_by_node((len(empties), fan))
    told = []
    for node in cover_by_words(nodes, begin, end):
        told.append((*node, block_by_look([empties[page] for page in nodes[node]])))
    return told


def finer_papers(empties, fan, end):
    """Other right papers for the pages ahead of end: single pages, and covers of two parts."""
    yield [(0, page, block_by_look([empties[page]])) for page in range(end)]
    for cut in range(1, end):
        yield paper_by_words(empties, fan, 0, cut) + paper_by_words(empties, fan, cut, end)


def end_of(empties, many, page):
    return len(empties) if page is None else page + many - 1


class RowFirst(Asking):
    """Points 5 and 31."""

    def test_all_lists_of_few_pages(self):
        for empties in all_empties(7):
            for many in range(1, len(empties) + 3):
                for fan in FANS:
                    self.tells_so(row_first_by_look(empties, many), row_first, empties, fan, many)

    def test_many_pages(self):
        for empties in long_empties():
            for many in list(range(1, 15)) + lengths_for(empties) + [90, 91, 109, 110]:
                for fan in (2, 5, 8):
                    self.tells_so(row_first_by_look(empties, many), row_first, empties, fan, many)

    def test_written_out(self):
        empties = [False, True, False, True, True, True, False, True, True]
        self.same([row_first(empties, 2, many) for many in range(1, 5)], [1, 3, 3, None])
        for fan in FANS:
            for many in (1, 2, 200, 201):
                self.tells_so(None, row_first, [], fan, many)
            self.tells_so(0, row_first, [True], fan, 1)
            self.tells_so(None, row_first, [True], fan, 2)
            self.tells_so(None, row_first, [False], fan, 1)

    def test_a_row_of_no_pages_begins_at_the_first_page(self):
        for many in (0, -1, -5):
            self.tells_so(0, row_first, [False, True], 2, many)
            self.tells_so(None, row_first, [], 2, many)
            self.tells_so((0, []), row_paper, [False, True], 2, many)
            self.tells_so((None, []), row_paper, [], 2, many)


class RowBest(Asking):
    """Point 31."""

    def held(self, empties, fan, many):
        fitting = [(end - begin, begin) for begin, end in stretches_by_look(empties) if end - begin >= many]
        self.tells_so(min(fitting)[1] if fitting else None, row_best, empties, fan, many)

    def test_all_lists_of_few_pages(self):
        for empties in all_empties(8):
            for many in range(1, len(empties) + 3):
                self.held(empties, 2 + many % 7, many)

    def test_many_pages(self):
        for empties in long_empties():
            for many in list(range(1, 15)) + lengths_for(empties) + [90, 91, 109, 110]:
                self.held(empties, 3, many)

    def test_written_out(self):
        empties = [True, True, True, False, True, False, True, True, False, True, False, True, True]
        for fan in FANS:
            self.same([row_best(empties, fan, many) for many in range(1, 6)], [4, 6, 0, None, None])
            self.tells_so(None, row_best, [], fan, 1)


class RowPaper(Asking):
    """Points 5 and 32."""

    def held(self, empties, fan, many):
        page = row_first_by_look(empties, many)
        paper = paper_by_words(empties, fan, 0, end_of(empties, many, page))
        self.tells_so((page, paper), row_paper, empties, fan, many)
        self.tells_so(True, row_shows, (len(empties), fan), many, page, paper)
        self.tells_so(True, row_honest, empties, fan, paper)

    def test_all_lists_of_few_pages(self):
        for empties in all_empties(6):
            for many in range(1, len(empties) + 3):
                for fan in (2, 3, 8):
                    self.held(empties, fan, many)

    def test_many_pages(self):
        for empties in long_empties():
            for many in [4, 9] + lengths_for(empties):
                self.held(empties, 2 + many % 7, many)

    def test_written_out(self):
        empties = [True, False, True, True, True]
        self.tells_so((2, [(2, 0, (4, 1, 2, 2))]), row_paper, empties, 2, 3)
        self.tells_so((0, []), row_paper, empties, 2, 1)
        self.tells_so((2, [(1, 0, (2, 1, 0, 1)), (0, 2, (1, 1, 1, 1))]), row_paper, empties, 2, 2)
        self.tells_so((None, [(3, 0, (5, 1, 3, 3))]), row_paper, empties, 2, 4)
        self.tells_so((None, []), row_paper, [], 2, 4)


class RowShows(Asking):
    """Points 5 and 32."""

    def test_other_right_papers(self):
        for fan in (2, 3):
            for empties in all_empties(6):
                for many in range(1, len(empties) + 2):
                    page = row_first_by_look(empties, many)
                    for paper in finer_papers(empties, fan, end_of(empties, many, page)):
                        self.tells_so(True, row_shows, (len(empties), fan), many, page, paper)

    def papers(self):
        """Shapes, lengths, pages and papers that show them, with two tuples and more among them."""
        for fan in (2, 3, 8):
            for empties in all_empties(5) + [[True] * 9, [True, False] * 6, [False] * 7 + [True] * 8]:
                for many in (1, 2, 3, 6, 8, 9):
                    page, paper = row_paper(empties, fan, many)
                    yield (len(empties), fan), many, page, paper
                    for finer in list(finer_papers(empties, fan, end_of(empties, many, page)))[:1]:
                        yield (len(empties), fan), many, page, finer

    def test_a_tuple_less_one_more_or_twice(self):
        for shape, many, page, paper in self.papers():
            for k in range(len(paper)):
                self.tells_so(False, row_shows, shape, many, page, paper[:k] + paper[k + 1:])
                self.tells_so(False, row_shows, shape, many, page, paper[:k] + paper[k:k + 1] + paper[k:])
            for node, pages in pages_by_node(shape).items():
                entry = (*node, (len(pages), 0, 0, 0))
                self.tells_so(False, row_shows, shape, many, page, paper + [entry])
                self.tells_so(False, row_shows, shape, many, page, [entry] + paper)

    def test_two_exchanged(self):
        for shape, many, page, paper in self.papers():
            for k in range(len(paper) - 1):
                other = paper[:k] + [paper[k + 1], paper[k]] + paper[k + 2:]
                self.tells_so(False, row_shows, shape, many, page, other)

    def test_another_level_or_place(self):
        for shape, many, page, paper in self.papers():
            nodes = pages_by_node(shape)
            for k, (level, place, block) in enumerate(paper):
                for step in (-1, 1, -10 ** 59, 10 ** 59, -level - 1, -place - 1):
                    for node in ((level + step, place), (level, place + step)):
                        # A node may stand over the very pages of the one beneath it, and be as right.
                        alike = nodes.get(node) == nodes[level, place]
                        other = paper[:k] + [(*node, block)] + paper[k + 1:]
                        self.tells_so(alike, row_shows, shape, many, page, other)

    def test_another_number_in_a_block(self):
        for shape, many, page, paper in self.papers():
            for k, (level, place, block) in enumerate(paper):
                for step in (-1, 1, 10 ** 59):
                    wrong = (block[0] + step,) + block[1:]
                    other = paper[:k] + [(level, place, wrong)] + paper[k + 1:]
                    self.tells_so(False, row_shows, shape, many, page, other)
                long_row = block[:3] + (many,)
                self.tells_so(False, row_shows, shape, many, page, paper[:k] + [(level, place, long_row)] + paper[k + 1:])

    def test_blocks_joined_to_a_row_that_is_long_enough(self):
        paper = [(0, 0, (1, 1, 1, 1)), (0, 1, (1, 1, 1, 1))]
        self.tells_so(True, row_shows, (5, 2), 3, 0, paper)
        self.tells_so(False, row_shows, (5, 2), 2, 1, paper)
        self.tells_so(False, row_shows, (2, 2), 2, None, paper)
        self.tells_so(True, row_shows, (2, 2), 3, None, paper)
        self.tells_so(False, row_shows, (2, 2), 2, None, [(1, 0, (2, 1, 1, 2))])
        self.tells_so(False, row_shows, (2, 2), 2, None, [(1, 0, (2, 7, 0, 1))])
        self.tells_so(True, row_shows, (2, 2), 2, None, [(1, 0, (2, 0, 7, 1))])
        self.tells_so(False, row_shows, (4, 2), 2, None, [(1, 0, (2, 0, 1, 1)), (1, 1, (2, 1, 0, 1))])
        self.tells_so(True, row_shows, (4, 2), 3, None, [(1, 0, (2, 0, 1, 1)), (1, 1, (2, 1, 0, 1))])
        self.tells_so(True, row_shows, (4, 2), 2, None, [(1, 0, (2, 0, -5, -1)), (1, 1, (2, 6, -5, -3))])

    def test_another_page(self):
        for shape, many, page, paper in self.papers():
            for other in list(range(shape[0] + 2)) + [10 ** 59, None]:
                # Of the pages named otherwise only one may be the end that the paper reaches.
                wanted = other is None if page is None else other == page
                end = shape[0] if page is None else page + many - 1
                other_end = shape[0] if other is None else other + many - 1
                self.tells_so(wanted or end == other_end, row_shows, shape, many, other, paper)

    def test_a_row_that_juts_out(self):
        for pages in (0, 1, 2, 5):
            paper = paper_by_words([False] * pages, 2, 0, pages)
            for many in (1, 2, 5):
                for page in range(0, pages + 3):
                    wanted = page + many - 1 == pages
                    self.tells_so(wanted, row_shows, (pages, 2), many, page, paper)

    def test_nothing_ahead_of_the_first_page(self):
        for pages in (0, 1, 5, 200):
            for fan in FANS:
                self.tells_so(True, row_shows, (pages, fan), 1, 0, [])
                self.tells_so(False, row_shows, (pages, fan), 2, 0, [])
                self.tells_so(False, row_shows, (pages, fan), 1, 1, [])
                self.tells_so(pages == 0, row_shows, (pages, fan), 1, None, [])

    def test_an_honest_paper_that_shows_a_page_shows_the_first(self):
        for empties in all_empties(4):
            shape = (len(empties), 2)
            for many in range(1, 5):
                rows = [page for page in range(len(empties)) if row_first_by_look(empties[page:], many) == 0]
                for page in rows:
                    for paper in finer_papers(empties, 2, page + many - 1):
                        shown = row_shows(shape, many, page, paper)
                        self.same(shown, page == row_first(empties, 2, many), empties, many, page)


class RowHonest(Asking):
    """Point 32."""

    def test_papers_of_nodes_with_their_blocks(self):
        for fan in FANS:
            for empties in all_empties(4) + [[True, False, True, True] * 5]:
                nodes = pages_by_node((len(empties), fan))
                every = [(*node, block_by_look([empties[page] for page in held])) for node, held in nodes.items()]
                self.tells_so(True, row_honest, empties, fan, [])
                self.tells_so(True, row_honest, empties, fan, every)
                self.tells_so(True, row_honest, empties, fan, every[::-1] + every)

    def test_another_block(self):
        for fan in (2, 3):
            for empties in all_empties(4):
                nodes = pages_by_node((len(empties), fan))
                every = [(*node, block_by_look([empties[page] for page in held])) for node, held in nodes.items()]
                for k, (level, place, block) in enumerate(every):
                    for part in range(4):
                        for step in (-1, 1, 10 ** 59):
                            wrong = block[:part] + (block[part] + step,) + block[part + 1:]
                            paper = every[:k] + [(level, place, wrong)] + every[k + 1:]
                            self.tells_so(False, row_honest, empties, fan, paper)

    def test_no_node(self):
        for pages in (0, 1, 2, 5):
            rows = {(0, 0, (1, 1, 1, 1))} if pages else set()
            for block in ((0, 0, 0, 0), (1, 1, 1, 1), (pages, pages, pages, pages)):
                for level, place in ((-1, 0), (0, -1), (-1, -1), (9, 0), (0, pages), (10 ** 59, 0), (0, -10 ** 59)):
                    self.tells_so(False, row_honest, [True] * pages, 2, [(level, place, block)])
                    self.tells_so(False, row_honest, [True] * pages, 2, sorted(rows) + [(level, place, block)])


if __name__ == "__main__":
    unittest.main()
