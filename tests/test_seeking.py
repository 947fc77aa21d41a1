import unittest

from asking import Asking
from model import (
    FANS, MOST, any_tree, children_by_pages, many_rooms, mixed_numbers, needs_for, pages_by_node, room_lists,
    safe_tree, searches, told_by_node, tree_by_node, tree_by_pages,
)
from ullage.seeking import seek
from ullage.writes import done, is_safe, ordered


def seek_by_words(tree, fan, rooms, need):
    """The search as the document tells it, step by step, over a dict of what each node tells."""
    nodes = pages_by_node((len(rooms), fan))
    told = told_by_node(tree)
    mends = []

    def put(node, number):
        mends.append((*node, told[node], number))
        told[node] = number

    page = None
    while nodes:
        at = max(nodes)
        if told[at] < need:
            break
        while at[0] > 0:
            enough = [child for child in children_by_pages(nodes, at) if told[child] >= need]
            if not enough:
                put(at, max(told[child] for child in children_by_pages(nodes, at)))
                break
            at = enough[0]
        else:
            if rooms[at[1]] >= need:
                page = at[1]
                break
            put(at, rooms[at[1]])
    return (page, tree_by_node(told), mends)


class Seek(Asking):
    """Points 5 and 29."""

    def held(self, tree, fan, rooms, need):
        self.tells_so(seek_by_words(tree, fan, rooms, need), seek, tree, fan, rooms, need)
        page, after, mends = seek(tree, fan, rooms, need)
        for level, place, was, now in mends:
            self.assertLess(now, was)
        put = [mend[:2] for mend in mends]
        self.assertEqual(len(put), len(set(put)))
        self.same(after, done(tree, [(level, place, now) for level, place, was, now in mends]))
        if page is not None:
            self.assertGreaterEqual(rooms[page], need)
        return page, after, mends

    def held_of_a_safe_tree(self, tree, fan, rooms, need):
        page, after, mends = self.held(tree, fan, rooms, need)
        self.assertEqual(page, searches(rooms, need)["first"], (tree, fan, rooms, need))
        self.assertTrue(is_safe(after, fan))
        for told, room in zip(after[0] if after else [], rooms):
            self.assertGreaterEqual(told, room)

    def test_whole_trees_of_the_rooms(self):
        for fan in FANS:
            for rooms in many_rooms((0, 1, 2, 3, 7, 13)):
                tree = tree_by_pages(rooms, fan)
                for need in needs_for(rooms):
                    self.tells_so((searches(rooms, need)["first"], tree, []), seek, tree, fan, rooms, need)

    def test_safe_trees_that_tell_too_much(self):
        for fan in FANS:
            for pages in (1, 2, 3, 7, 13):
                for seed in range(4):
                    rooms = mixed_numbers(seed + fan, pages, 6)
                    tree = safe_tree(seed, rooms, fan, 3)
                    for need in range(0, 20):
                        self.held_of_a_safe_tree(tree, fan, rooms, need)

    def test_safe_trees_over_rooms_that_fell(self):
        for fan in (2, 3, 8):
            for rooms in room_lists(13):
                tree = tree_by_pages([max(rooms)] * 13, fan)
                for need in needs_for(rooms):
                    self.held_of_a_safe_tree(tree, fan, rooms, need)

    def test_trees_of_any_numbers(self):
        for fan in FANS:
            for pages in (1, 2, 3, 7, 13):
                for seed in range(4):
                    rooms = mixed_numbers(seed, pages, 6)
                    for most in (3, 6, 12):
                        tree = any_tree(seed, pages, fan, most)
                        for need in (0, 1, 3, 4, 6, 7, 13):
                            self.held(tree, fan, rooms, need)

    def test_many_pages(self):
        for fan in (2, 5, 8):
            rooms = mixed_numbers(fan, 200, 50)
            for tree in (safe_tree(3, rooms, fan, 9), any_tree(5, 200, fan, 60), tree_by_pages([MOST] * 200, fan)):
                for need in (0, 1, 50, 51, 60, MOST, MOST + 1):
                    self.held(tree, fan, rooms, need)

    def test_a_change_that_was_stopped(self):
        for fan in FANS:
            for rooms in many_rooms((1, 2, 7)):
                tree = tree_by_pages(rooms, fan)
                for page in range(len(rooms)):
                    for room in (0, 4, MOST):
                        writes = ordered(tree, fan, page, room)
                        for many in range(len(writes) + 1):
                            stopped = done(tree, writes[:many])
                            for need in (0, 1, 4, 5, MOST, MOST + 1):
                                self.held_of_a_safe_tree(stopped, fan, stopped[0], need)

    def test_written_out(self):
        rooms = [3, 1, 4]
        self.tells_so((0, [[3, 1, 4], [3, 4], [4]], []), seek, [[3, 1, 4], [3, 4], [4]], 2, rooms, 2)
        self.tells_so((0, [[0, 0, 0], [0, 0], [0]], []), seek, [[0, 0, 0], [0, 0], [0]], 2, rooms, 0)
        self.tells_so((None, [[0, 0, 0], [0, 0], [0]], []), seek, [[0, 0, 0], [0, 0], [0]], 2, rooms, 1)
        told = (2, [[3, 1, 9], [3, 9], [9]], [(0, 0, 9, 3), (0, 1, 9, 1), (1, 0, 9, 3)])
        self.tells_so(told, seek, [[9, 9, 9], [9, 9], [9]], 2, rooms, 4)
        mends = [(0, 0, 9, 3), (0, 1, 9, 1), (1, 0, 9, 3), (0, 2, 9, 4), (1, 1, 9, 4), (2, 0, 9, 4)]
        self.tells_so((None, [[3, 1, 4], [3, 4], [4]], mends), seek, [[9, 9, 9], [9, 9], [9]], 2, rooms, 5)
        self.tells_so((None, [[0, 0, 0], [0, 0], [0]], [(2, 0, 4, 0)]), seek, [[0, 0, 0], [0, 0], [4]], 2, rooms, 1)

    def test_one_page_and_none(self):
        for fan in FANS:
            for need in (0, 1, 10 ** 59):
                self.tells_so((None, [], []), seek, [], fan, [], need)
            self.tells_so((0, [[5]], []), seek, [[5]], fan, [5], 5)
            self.tells_so((None, [[5]], []), seek, [[5]], fan, [9], 6)
            self.tells_so((None, [[2]], [(0, 0, 5, 2)]), seek, [[5]], fan, [2], 5)
            self.tells_so((0, [[5]], []), seek, [[5]], fan, [9], 5)


if __name__ == "__main__":
    unittest.main()
