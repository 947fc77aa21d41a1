import unittest

from asking import Asking
from model import (
    FANS, MOST, many_rooms, needs_for, numbers_beyond, pages_by_node, things_that_are_no_rooms, tree_by_pages,
)
from ullage.changes import changed, counted, nth, parted, unlike
from ullage.errors import BadRoom, NoPage, Unlike


def with_room(rooms, page, room):
    return rooms[:page] + [room] + rooms[page + 1:]


def nodes_unlike(one, other):
    return [
        (level, place) for level in range(len(one)) for place in range(len(one[level]))
        if one[level][place] != other[level][place]
    ]


def first_unlike(one, other):
    for page in range(len(one)):
        if one[page] != other[page]:
            return (page, one[page], other[page])
    return None


class Changed(Asking):
    """Point 13."""

    def held(self, rooms, fan, page, room):
        tree = tree_by_pages(rooms, fan)
        after = tree_by_pages(with_room(rooms, page, room), fan)
        writes = [(level, place, after[level][place]) for level, place in nodes_unlike(tree, after)]
        self.tells_so((after, writes), changed, tree, fan, page, room)
        return writes

    def test_rooms_that_grow_fall_and_stay_at_each_page(self):
        for fan in FANS:
            for rooms in many_rooms((1, 2, 3, 5, 9, 13)):
                for page, was in enumerate(rooms):
                    for room in {0, max(was - 1, 0), was, min(was + 1, MOST), 5, MOST}:
                        writes = self.held(rooms, fan, page, room)
                        self.assertEqual([write[0] for write in writes], list(range(len(writes))))
                        if room == was:
                            self.assertEqual(writes, [])

    def test_wide_trees(self):
        for fan in (2, 3, 8):
            for rooms in many_rooms((200,)):
                for page in (0, 77, 199):
                    for room in (0, rooms[page], MOST):
                        self.held(rooms, fan, page, room)

    def test_written_out(self):
        tree = [[3, 1, 4], [3, 4], [4]]
        self.tells_so(([[3, 1, 4], [3, 4], [4]], []), changed, tree, 2, 1, 1)
        self.tells_so(([[3, 2, 4], [3, 4], [4]], [(0, 1, 2)]), changed, tree, 2, 1, 2)
        self.tells_so(([[3, 9, 4], [9, 4], [9]], [(0, 1, 9), (1, 0, 9), (2, 0, 9)]), changed, tree, 2, 1, 9)
        self.tells_so(([[3, 1, 0], [3, 0], [3]], [(0, 2, 0), (1, 1, 0), (2, 0, 3)]), changed, tree, 2, 2, 0)
        self.tells_so(([[0, 1, 4], [1, 4], [4]], [(0, 0, 0), (1, 0, 1)]), changed, tree, 2, 0, 0)
        self.tells_so(([[7]], [(0, 0, 7)]), changed, [[4]], 8, 0, 7)

    def test_refuses_what_is_no_page(self):
        for fan in FANS:
            for rooms in many_rooms((0, 1, 2, 9)):
                tree = tree_by_pages(rooms, fan)
                for page in numbers_beyond(len(rooms)):
                    self.refused(NoPage, changed, tree, fan, page, 3)

    def test_refuses_what_is_no_room(self):
        for fan in (2, 8):
            for rooms in many_rooms((1, 2, 9)):
                tree = tree_by_pages(rooms, fan)
                for page in range(len(rooms)):
                    for thing in things_that_are_no_rooms():
                        self.refused(BadRoom, changed, tree, fan, page, thing)

    def test_no_page_comes_ahead_of_bad_room(self):
        for rooms in ([], [4], [1, 2, 3]):
            for page in numbers_beyond(len(rooms)):
                for thing in things_that_are_no_rooms():
                    self.refused(NoPage, changed, tree_by_pages(rooms, 2), 2, page, thing)

    def test_what_was_handed_in_may_be_changed_later(self):
        tree = [[1, 2], [2]]
        told = changed(tree, 2, 0, 3)
        tree[0][1] = 9
        tree[1][0] = 9
        self.assertEqual(told, ([[3, 2], [3]], [(0, 0, 3), (1, 0, 3)]))


class Counting(Asking):
    """Point 14."""

    def test_counted_and_nth_for_many_needs(self):
        for rooms in many_rooms() + many_rooms((64, 200))[::5]:
            for fan in (2, 3, 8):
                tree = tree_by_pages(rooms, fan)
                for need in needs_for(rooms)[:12] + needs_for(rooms)[-5:]:
                    pages = [page for page in range(len(rooms)) if rooms[page] >= need]
                    many = len(pages)
                    self.tells_so(many, counted, tree, need)
                    for k in {0, 1, many // 2, max(many - 1, 0), many, many + 1, 10 ** 59}:
                        self.tells_so(pages[k] if k < many else None, nth, tree, need, k)
                    for k in {-1, -2, -many, -many - 1, -10 ** 59} - {0}:
                        self.tells_so(None, nth, tree, need, k)

    def test_written_out(self):
        tree = [[3, 1, 4, 3], [3, 4], [4]]
        self.assertEqual([counted(tree, need) for need in range(6)], [4, 4, 3, 3, 1, 0])
        self.assertEqual([nth(tree, 3, k) for k in range(5)], [0, 2, 3, None, None])
        self.assertEqual([nth(tree, 0, k) for k in range(5)], [0, 1, 2, 3, None])
        self.assertEqual([nth(tree, 5, k) for k in range(3)], [None, None, None])

    def test_without_pages(self):
        for need in (0, 1, 10 ** 59):
            self.tells_so(0, counted, [], need)
            for k in (0, 1, 10 ** 59, -1, -2, -10 ** 59):
                self.tells_so(None, nth, [], need, k)


class TwoTrees(Asking):
    """Point 15."""

    def held(self, one, other):
        rooms = (one[0], other[0]) if one else ([], [])
        self.tells_so(first_unlike(rooms[0], rooms[1]), parted, one, other)
        self.tells_so(nodes_unlike(one, other), unlike, one, other)

    def test_trees_alike(self):
        for fan in FANS:
            for rooms in many_rooms():
                tree = tree_by_pages(rooms, fan)
                self.tells_so(None, parted, tree, tree_by_pages(rooms, fan))
                self.tells_so([], unlike, tree, tree_by_pages(rooms, fan))
                self.assertEqual((parted(tree, tree), unlike(tree, tree)), (None, []))

    def test_whole_trees_against_one_another(self):
        for fan in FANS:
            for pages in (0, 1, 2, 5, 9, 13, 200):
                trees = [tree_by_pages(rooms, fan) for rooms in many_rooms((pages,))]
                for one in trees:
                    for other in trees:
                        self.held(one, [list(level) for level in other])

    def test_one_node_otherwise_either_way_round(self):
        for fan in FANS:
            for rooms in many_rooms((1, 2, 5, 9)):
                tree = tree_by_pages(rooms, fan)
                for level, place in pages_by_node((len(rooms), fan)):
                    for number in (0, tree[level][place] + 1):
                        other = [list(row) for row in tree]
                        other[level][place] = number
                        self.held(tree, other)
                        self.held(other, tree)

    def test_nodes_that_are_unlike_above_rooms_alike(self):
        one = [[1, 2, 3], [2, 3], [3]]
        other = [[1, 2, 3], [5, 0], [3]]
        self.tells_so(None, parted, one, other)
        self.tells_so([(1, 0), (1, 1)], unlike, one, other)

    def test_written_out(self):
        one = [[1, 2, 3], [2, 3], [3]]
        other = [[1, 5, 4], [5, 4], [5]]
        self.tells_so((1, 2, 5), parted, one, other)
        self.tells_so((1, 5, 2), parted, other, one)
        self.tells_so([(0, 1), (0, 2), (1, 0), (1, 1), (2, 0)], unlike, one, other)

    def test_refuses_unlike_numbers_of_pages(self):
        for fan in FANS:
            trees = [tree_by_pages([3] * pages, fan) for pages in (0, 1, 2, 3, 7, 8, 9, 199, 200)]
            for one in trees:
                for other in trees:
                    if one != other:
                        for asked in (parted, unlike):
                            self.refused(Unlike, asked, one, other)


if __name__ == "__main__":
    unittest.main()
