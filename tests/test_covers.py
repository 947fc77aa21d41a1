import unittest

from model import (
    SHAPES, WIDE_SHAPES, cover_by_words, ends_by_begin, fewest_nodes, numbers_beyond, pages_by_node,
)
from ullage.covers import ancestors, cover, meeting
from ullage.errors import NoPage


class Cover(unittest.TestCase):
    """Points 5 and 8."""

    def held(self, shape, nodes, ends, begin, end):
        told = cover(shape, begin, end)
        self.assertIs(type(told), list)
        self.assertTrue(all(type(node) is tuple and len(node) == 2 for node in told))
        pages = [page for node in told for page in nodes[node]]
        self.assertEqual(pages, list(range(begin, end)), (shape, begin, end))
        self.assertEqual(len(told), fewest_nodes(ends, begin, end)[begin], (shape, begin, end))
        return told

    def test_each_range_of_shapes_of_many_sizes(self):
        for shape in SHAPES:
            nodes = pages_by_node(shape)
            ends = ends_by_begin(nodes)
            for begin in range(shape[0] + 1):
                for end in range(begin, shape[0] + 1):
                    told = self.held(shape, nodes, ends, begin, end)
                    self.assertEqual(told, cover_by_words(nodes, begin, end), (shape, begin, end))

    def test_ranges_of_wide_shapes(self):
        for shape in WIDE_SHAPES:
            nodes = pages_by_node(shape)
            ends = ends_by_begin(nodes)
            for begin in list(range(0, shape[0], 23)) + [1, shape[0] - 1]:
                for end in list(range(begin, shape[0], 19)) + [shape[0]]:
                    told = self.held(shape, nodes, ends, begin, end)
                    self.assertEqual(told, cover_by_words(nodes, begin, end), (shape, begin, end))

    def test_written_out(self):
        self.assertEqual(cover((9, 2), 0, 9), [(4, 0)])
        self.assertEqual(cover((9, 2), 8, 9), [(3, 1)])
        self.assertEqual(cover((9, 2), 1, 9), [(0, 1), (1, 1), (2, 1), (3, 1)])
        self.assertEqual(cover((9, 2), 3, 7), [(0, 3), (1, 2), (0, 6)])
        self.assertEqual(cover((1, 2), 0, 1), [(0, 0)])

    def test_nothing_where_begin_is_end(self):
        for shape in SHAPES + WIDE_SHAPES:
            for begin in (0, shape[0] // 2, shape[0]):
                self.assertEqual(cover(shape, begin, begin), [])

    def test_refuses_what_are_no_pages(self):
        for shape in SHAPES + WIDE_SHAPES:
            pages = shape[0]
            ranges = [(-1, -1), (-1, 0), (-1, pages), (-10 ** 59, pages), (-pages - 1, pages)]
            ranges += [(0, pages + 1), (pages, pages + 1), (pages + 1, pages + 1), (0, 10 ** 59)]
            ranges += [(pages + 1, pages), (1, 0), (pages, pages - 1), (pages, -1), (10 ** 59, 0)]
            ranges += [(10 ** 59, 10 ** 59), (-10 ** 59, -10 ** 59), (-10 ** 59, 10 ** 59)]
            for begin, end in ranges:
                with self.assertRaises(NoPage, msg=(shape, begin, end)):
                    cover(shape, begin, end)

    def test_refuses_each_begin_above_its_end(self):
        for end in range(10):
            for begin in range(end + 1, 10):
                self.assertRaises(NoPage, cover, (9, 3), begin, end)

    def test_the_list_is_the_askers_own(self):
        told = cover((9, 2), 3, 7)
        told.clear()
        self.assertEqual(cover((9, 2), 3, 7), [(0, 3), (1, 2), (0, 6)])
        empty = cover((9, 2), 3, 3)
        empty.append((0, 0))
        self.assertEqual(cover((9, 2), 3, 3), [])


class Ancestors(unittest.TestCase):
    """Point 9."""

    def test_each_page(self):
        for shape in SHAPES + WIDE_SHAPES:
            nodes = pages_by_node(shape)
            for page in range(shape[0]):
                told = ancestors(shape, page)
                self.assertEqual(told, [node for node in nodes if page in nodes[node]], (shape, page))
                self.assertIs(type(told), list)
                self.assertTrue(all(type(node) is tuple for node in told))

    def test_written_out(self):
        self.assertEqual(ancestors((9, 2), 8), [(0, 8), (1, 4), (2, 2), (3, 1), (4, 0)])
        self.assertEqual(ancestors((9, 2), 0), [(0, 0), (1, 0), (2, 0), (3, 0), (4, 0)])
        self.assertEqual(ancestors((1, 8), 0), [(0, 0)])

    def test_refuses_what_is_no_page(self):
        for shape in SHAPES + WIDE_SHAPES:
            for page in numbers_beyond(shape[0]):
                with self.assertRaises(NoPage, msg=(shape, page)):
                    ancestors(shape, page)

    def test_the_list_is_the_askers_own(self):
        told = ancestors((3, 2), 2)
        told.reverse()
        told.pop()
        self.assertEqual(ancestors((3, 2), 2), [(0, 2), (1, 1), (2, 0)])


class Meeting(unittest.TestCase):
    """Point 9."""

    def test_each_pair_of_pages(self):
        for shape in SHAPES:
            nodes = pages_by_node(shape)
            for one in range(shape[0]):
                for other in range(shape[0]):
                    both = [node for node, pages in nodes.items() if one in pages and other in pages]
                    told = meeting(shape, one, other)
                    self.assertEqual(told, both[0], (shape, one, other))
                    self.assertIs(type(told), tuple)

    def test_pairs_of_wide_shapes(self):
        for shape in WIDE_SHAPES:
            nodes = pages_by_node(shape)
            some = list(range(0, shape[0], 17)) + [shape[0] - 2, shape[0] - 1]
            for one in some:
                for other in some:
                    both = [node for node, pages in nodes.items() if one in pages and other in pages]
                    self.assertEqual(meeting(shape, one, other), both[0], (shape, one, other))

    def test_written_out(self):
        self.assertEqual(meeting((9, 2), 0, 8), (4, 0))
        self.assertEqual(meeting((9, 2), 8, 0), (4, 0))
        self.assertEqual(meeting((9, 2), 8, 8), (0, 8))
        self.assertEqual(meeting((9, 2), 2, 3), (1, 1))
        self.assertEqual(meeting((1, 2), 0, 0), (0, 0))

    def test_refuses_what_is_no_page_in_either_place(self):
        for shape in SHAPES + WIDE_SHAPES:
            for bad in numbers_beyond(shape[0]):
                pairs = [(bad, bad)] + [(bad, page) for page in range(shape[0])]
                pairs += [(page, bad) for page in range(shape[0])]
                for one, other in pairs:
                    with self.assertRaises(NoPage, msg=(shape, one, other)):
                        meeting(shape, one, other)


if __name__ == "__main__":
    unittest.main()
