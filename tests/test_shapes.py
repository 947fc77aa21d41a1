import unittest

from model import ODD_THINGS, SHAPES, WIDE_SHAPES, pages_by_node, rows_of_pages, things_that_are_no_nodes
from ullage.errors import BadShape, NoNode
from ullage.shapes import checked_shape, children, is_node, levels, parent, span, top


class CheckedShape(unittest.TestCase):
    """Point 6, and the kinds of point 2."""

    def test_tells_the_shape_at_its_bounds_and_within(self):
        for pages in (0, 1, 2, 100, 199, 200):
            for fan in (2, 3, 7, 8):
                with self.subTest(pages=pages, fan=fan):
                    shape = checked_shape(pages, fan)
                    self.assertEqual(shape, (pages, fan))
                    self.assertIs(type(shape), tuple)
                    self.assertEqual([type(number) for number in shape], [int, int])

    def refused(self, pages, fan):
        with self.subTest(pages=pages, fan=fan):
            with self.assertRaises(BadShape):
                checked_shape(pages, fan)

    def test_refuses_numbers_beyond_the_bounds(self):
        bad_pages = (-1, 201, -200, 1000, 10 ** 59, -10 ** 59)
        bad_fans = (1, 9, 0, -1, -2, -8, 1000, 10 ** 59, -10 ** 59)
        for pages in bad_pages:
            for fan in (2, 8) + bad_fans:
                self.refused(pages, fan)
        for fan in bad_fans:
            for pages in (0, 1, 200):
                self.refused(pages, fan)

    def test_refuses_what_is_no_whole_number(self):
        for thing in ODD_THINGS:
            for number in (0, 1, 2, 8, 200):
                self.refused(thing, number)
                self.refused(number, thing)
            for other in ODD_THINGS:
                self.refused(thing, other)


class Levels(unittest.TestCase):
    """Point 6."""

    def test_written_out(self):
        told = {
            (0, 2): [], (0, 8): [],
            (1, 2): [1], (1, 8): [1],
            (2, 2): [2, 1], (3, 2): [3, 2, 1], (2, 8): [2, 1],
            (7, 2): [7, 4, 2, 1], (8, 2): [8, 4, 2, 1], (9, 2): [9, 5, 3, 2, 1],
            (26, 3): [26, 9, 3, 1], (27, 3): [27, 9, 3, 1], (28, 3): [28, 10, 4, 2, 1],
            (7, 8): [7, 1], (8, 8): [8, 1], (9, 8): [9, 2, 1],
            (63, 8): [63, 8, 1], (64, 8): [64, 8, 1], (65, 8): [65, 9, 2, 1],
            (200, 2): [200, 100, 50, 25, 13, 7, 4, 2, 1], (200, 8): [200, 25, 4, 1],
        }
        for shape, counts in told.items():
            with self.subTest(shape=shape):
                self.assertEqual(levels(shape), counts)

    def test_of_every_shape(self):
        for fan in range(2, 9):
            for pages in range(201):
                told = levels((pages, fan))
                self.assertIs(type(told), list)
                self.assertEqual(told, [len(row) for row in rows_of_pages((pages, fan))], (pages, fan))

    def test_the_list_is_the_askers_own(self):
        told = levels((9, 2))
        told[0] = 1
        told.append(7)
        self.assertEqual(levels((9, 2)), [9, 5, 3, 2, 1])
        empty = levels((0, 2))
        empty.append(1)
        self.assertEqual(levels((0, 2)), [])


class Nodes(unittest.TestCase):
    """Point 7, and the kinds and lists of points 2 and 3."""

    def test_is_node_of_each_node(self):
        for shape in SHAPES + WIDE_SHAPES:
            for node in pages_by_node(shape):
                self.assertIs(is_node(shape, node), True, (shape, node))

    def test_what_is_no_node(self):
        for shape in SHAPES + WIDE_SHAPES:
            for thing in things_that_are_no_nodes(shape):
                self.assertIs(is_node(shape, thing), False, (shape, thing))

    def test_span_parent_and_children_refuse_what_is_no_node(self):
        for shape in SHAPES + WIDE_SHAPES:
            for thing in things_that_are_no_nodes(shape):
                for asked in (span, parent, children):
                    with self.assertRaises(NoNode, msg=(asked, shape, thing)):
                        asked(shape, thing)

    def test_span(self):
        for shape in SHAPES + WIDE_SHAPES:
            for node, pages in pages_by_node(shape).items():
                told = span(shape, node)
                self.assertEqual(told, (pages[0], pages[-1] + 1), (shape, node))
                self.assertEqual([type(told), type(told[0]), type(told[1])], [tuple, int, int])

    def test_span_of_the_last_node_is_cut_at_the_pages(self):
        self.assertEqual(span((9, 2), (1, 4)), (8, 9))
        self.assertEqual(span((9, 2), (3, 1)), (8, 9))
        self.assertEqual(span((9, 2), (4, 0)), (0, 9))
        self.assertEqual(span((200, 8), (2, 3)), (192, 200))
        self.assertEqual(span((200, 3), (5, 0)), (0, 200))

    def test_parent_and_children(self):
        for shape in SHAPES + WIDE_SHAPES:
            nodes = pages_by_node(shape)
            parents = {node: None for node in nodes}
            for node, pages in nodes.items():
                beneath = [one for one in nodes if one[0] == node[0] - 1 and nodes[one][0] in pages]
                for one in beneath:
                    parents[one] = node
                told = children(shape, node)
                self.assertEqual(told, beneath, (shape, node))
                self.assertIs(type(told), list)
                self.assertTrue(all(type(one) is tuple for one in told))
            for node in nodes:
                told = parent(shape, node)
                self.assertEqual(told, parents[node], (shape, node))
                self.assertIn(type(told), (tuple, type(None)))

    def test_parent_and_children_at_the_ends(self):
        self.assertEqual(children((9, 2), (4, 0)), [(3, 0), (3, 1)])
        self.assertEqual(children((9, 2), (3, 1)), [(2, 2)])
        self.assertEqual(children((9, 2), (0, 8)), [])
        self.assertIsNone(parent((9, 2), (4, 0)))
        self.assertIsNone(parent((1, 2), (0, 0)))
        self.assertEqual(children((1, 2), (0, 0)), [])

    def test_top(self):
        for shape in SHAPES + WIDE_SHAPES:
            rows = rows_of_pages(shape)
            told = top(shape)
            if shape[0] == 0:
                self.assertIsNone(told, shape)
            else:
                self.assertEqual(told, (len(rows) - 1, 0), shape)
                self.assertIs(type(told), tuple)
                self.assertEqual(span(shape, told), (0, shape[0]))

    def test_the_children_are_the_askers_own(self):
        told = children((9, 2), (1, 0))
        told.append((0, 8))
        self.assertEqual(children((9, 2), (1, 0)), [(0, 0), (0, 1)])
        none = children((9, 2), (0, 0))
        none.append((0, 8))
        self.assertEqual(children((9, 2), (0, 0)), [])

    def test_a_thing_handed_in_is_not_changed(self):
        things = [[0, 0], {0: 0}, ([0], [0])]
        for thing in things:
            is_node((9, 2), thing)
            for asked in (span, parent, children):
                self.assertRaises(NoNode, asked, (9, 2), thing)
        self.assertEqual(things, [[0, 0], {0: 0}, ([0], [0])])


if __name__ == "__main__":
    unittest.main()
