import unittest

from asking import Asking
from model import FANS, cover_by_words, many_rooms, needs_for, pages_by_node, room_lists, tree_by_pages
from ullage.errors import NoPage
from ullage.walks import walked


def walk_by_words(tree, nodes, need, begin):
    """At the nodes of the cover one by one, then down; for each row as far as the first that tells so much."""
    pages = len(tree[0]) if tree else 0
    row = cover_by_words(nodes, begin, pages)
    walk = []
    while row:
        told = [tree[level][place] >= need for level, place in row]
        if True not in told:
            return walk + row
        walk += row[:told.index(True) + 1]
        node = walk[-1]
        row = [one for one in nodes if one[0] == node[0] - 1 and nodes[one][0] in nodes[node]]
    return walk


class Walked(Asking):
    """Point 17."""

    def held(self, rooms, fan, needs, begins):
        tree = tree_by_pages(rooms, fan)
        nodes = pages_by_node((len(rooms), fan))
        for begin in begins:
            for need in needs:
                walk = self.told(walked, tree, fan, need, begin)
                self.same(walk, walk_by_words(tree, nodes, need, begin), rooms, fan, need, begin)
                pages = [page for page in range(begin, len(rooms)) if rooms[page] >= need]
                if pages:
                    self.assertEqual(walk[-1], (0, pages[0]), (rooms, fan, need, begin))
                if begin == 0 and rooms:
                    self.assertLessEqual(len(walk), 1 + fan * (len(tree) - 1), (rooms, fan, need))

    def test_each_begin(self):
        for fan in FANS:
            for rooms in many_rooms((0, 1, 2, 3, 5, 9, 13)):
                needs = needs_for(rooms)
                self.held(rooms, fan, needs[:5] + needs[-4:], range(len(rooms) + 1))

    def test_wide_trees(self):
        for fan in (2, 3, 8):
            for rooms in room_lists(200)[2:]:
                needs = needs_for(rooms)
                self.held(rooms, fan, needs[::len(needs) // 3], (0, 1, 64, 127, 199, 200))

    def test_written_out(self):
        tree = [[3, 1, 4, 1, 5], [3, 4, 5], [4, 5], [5]]
        self.tells_so([(3, 0), (2, 0), (1, 0), (0, 0)], walked, tree, 2, 3, 0)
        self.tells_so([(3, 0), (2, 0), (2, 1), (1, 2), (0, 4)], walked, tree, 2, 5, 0)
        self.tells_so([(3, 0)], walked, tree, 2, 6, 0)
        self.tells_so([(0, 1), (1, 1), (0, 2)], walked, tree, 2, 2, 1)
        self.tells_so([(0, 1), (1, 1), (2, 1)], walked, tree, 2, 6, 1)
        self.tells_so([(2, 1), (1, 2), (0, 4)], walked, tree, 2, 0, 4)
        self.tells_so([], walked, tree, 2, 0, 5)

    def test_as_many_looks_as_the_point_allows(self):
        for fan in FANS:
            rooms = [0] * (fan * fan - 1) + [1]
            self.assertEqual(len(walked(tree_by_pages(rooms, fan), fan, 1, 0)), 1 + 2 * fan)

    def test_nothing_right_behind_the_pages_and_without_pages(self):
        for fan in FANS:
            for rooms in many_rooms((0, 1, 2, 9)) + [[5] * 200]:
                for need in (0, 5, 10 ** 59):
                    self.tells_so([], walked, tree_by_pages(rooms, fan), fan, need, len(rooms))

    def test_refuses_a_begin_beyond_the_pages(self):
        for fan in FANS:
            for rooms in many_rooms((0, 1, 2, 9)) + [[5] * 200]:
                tree = tree_by_pages(rooms, fan)
                for need in (0, 5, 10 ** 59):
                    for begin in (-1, -len(rooms) - 1, -10 ** 59, len(rooms) + 1, len(rooms) + 2, 10 ** 59):
                        self.refused(NoPage, walked, tree, fan, need, begin)


if __name__ == "__main__":
    unittest.main()
