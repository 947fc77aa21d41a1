import unittest

from asking import Asking
from model import (
    FANS, MOST, any_tree, children_by_pages, many_rooms, mixed_numbers, numbers_beyond, pages_by_node, room_lists,
    safe_tree, things_that_are_no_rooms, told_by_node, tree_by_node, tree_by_pages,
)
from ullage.changes import changed
from ullage.errors import BadRoom, NoNode, NoPage
from ullage.trees import fault
from ullage.writes import done, is_safe, mended, ordered

COUNTS = (0, 1, 2, 3, 7, 9, 13)


def is_safe_by_words(tree, fan):
    nodes = pages_by_node((len(tree[0]) if tree else 0, fan))
    told = told_by_node(tree)
    return all(
        told[node] >= told[child] for node in nodes if node[0] > 0 for child in children_by_pages(nodes, node)
    )


def with_node(tree, level, place, number):
    other = [list(row) for row in tree]
    other[level][place] = number
    return other


def nodes_of(tree):
    return sorted(told_by_node(tree))


class Done(Asking):
    """Points 3, 4 and 26."""

    def test_no_write(self):
        for fan in FANS:
            for rooms in many_rooms(COUNTS):
                tree = tree_by_pages(rooms, fan)
                self.tells_so(tree, done, tree, [])

    def test_one_write_of_each_node(self):
        for fan in (2, 3, 8):
            for rooms in many_rooms((1, 2, 7, 13)):
                tree = tree_by_pages(rooms, fan)
                for level, place in nodes_of(tree):
                    for number in (0, 4, MOST):
                        wanted = with_node(tree, level, place, number)
                        self.tells_so(wanted, done, tree, [(level, place, number)])

    def test_several_writes_one_after_another(self):
        for fan in FANS:
            for pages in (1, 2, 7, 13, 200):
                tree = any_tree(pages, pages, fan, 20)
                nodes = nodes_of(tree)
                picks = mixed_numbers(fan, 30, len(nodes) - 1)
                writes = [(*nodes[pick], number) for pick, number in zip(picks, mixed_numbers(pages, 30, 99))]
                told = told_by_node(tree)
                for level, place, number in writes:
                    told[level, place] = number
                self.tells_so(tree_by_node(told), done, tree, writes)

    def test_of_two_of_one_node_the_later_one_holds(self):
        tree = [[3, 1, 4], [3, 4], [4]]
        self.tells_so([[3, 9, 4], [3, 4], [4]], done, tree, [(0, 1, 8), (0, 1, 9)])
        self.tells_so([[3, 8, 4], [3, 4], [4]], done, tree, [(0, 1, 9), (0, 1, 8)])
        self.tells_so([[3, 1, 4], [3, 4], [4]], done, tree, [(2, 0, 0), (0, 0, 3), (2, 0, 4)])
        self.tells_so([[3, 1, 4], [7, 6], [5]], done, tree, [(2, 0, 5), (1, 1, 6), (1, 0, 7)])

    def test_refuses_what_is_no_node_wherever_it_stands(self):
        for fan in (2, 3, 8):
            for pages in (0, 1, 2, 7, 9):
                tree = tree_by_pages([5] * pages, fan)
                good = [(0, 0, 7), (len(tree) - 1, 0, 8)] if tree else []
                for level in range(-1, len(tree) + 2):
                    many = len(tree[level]) if 0 <= level < len(tree) else 0
                    for place in numbers_beyond(many):
                        self.refused_among(tree, good, (level, place, 1))
                for level in (-1, -2, -len(tree), -10 ** 59, len(tree), len(tree) + 1, 10 ** 59):
                    self.refused_among(tree, good, (level, 0, 1))

    def refused_among(self, tree, good, bad):
        self.refused(NoNode, done, tree, [bad])
        self.refused(NoNode, done, tree, [bad] + good)
        self.refused(NoNode, done, tree, good + [bad])
        self.refused(NoNode, done, tree, good + [bad] + good)


class IsSafe(Asking):
    """Point 26."""

    def test_whole_trees(self):
        for fan in FANS:
            for rooms in many_rooms(COUNTS) + room_lists(200):
                self.tells_so(True, is_safe, tree_by_pages(rooms, fan), fan)
            self.tells_so(True, is_safe, [], fan)

    def test_trees_with_one_node_put_otherwise(self):
        for fan in (2, 3, 5, 8):
            for rooms in many_rooms((1, 2, 3, 7, 13)):
                tree = tree_by_pages(rooms, fan)
                for level, place in nodes_of(tree):
                    told = tree[level][place]
                    for number in {0, max(told - 1, 0), told, told + 1, MOST, MOST + 1}:
                        other = with_node(tree, level, place, number)
                        self.tells_so(is_safe_by_words(other, fan), is_safe, other, fan)

    def test_safe_trees_and_trees_of_any_numbers(self):
        answers = set()
        for fan in FANS:
            for pages in (1, 2, 3, 7, 13, 40):
                for seed in range(6):
                    rooms = mixed_numbers(seed, pages, 9)
                    self.tells_so(True, is_safe, safe_tree(seed, rooms, fan, 3), fan)
                    tree = any_tree(seed, pages, fan, 3)
                    answers.add(is_safe_by_words(tree, fan))
                    self.tells_so(is_safe_by_words(tree, fan), is_safe, tree, fan)
        self.assertEqual(answers, {True, False})

    def test_written_out(self):
        self.tells_so(True, is_safe, [[3, 1, 4], [3, 4], [4]], 2)
        self.tells_so(True, is_safe, [[3, 1, 4], [4, 4], [4]], 2)
        self.tells_so(False, is_safe, [[3, 1, 4], [5, 4], [4]], 2)
        self.tells_so(True, is_safe, [[3, 1, 4], [5, 4], [5]], 2)
        self.tells_so(False, is_safe, [[3, 1, 4], [2, 4], [4]], 2)
        self.tells_so(False, is_safe, [[3, 1, 4], [3, 4], [3]], 2)
        self.tells_so(False, is_safe, [[3, 1, 5], [3, 4], [4]], 2)


class Ordered(Asking):
    """Points 5 and 27."""

    def test_the_writes_of_changed_in_the_order_in_which_they_may_be_stopped(self):
        for fan in FANS:
            for rooms in many_rooms((1, 2, 3, 7, 13)):
                tree = tree_by_pages(rooms, fan)
                for page, was in enumerate(rooms):
                    for room in {0, max(was - 1, 0), was, min(was + 1, MOST), max(rooms), MOST}:
                        self.held(tree, fan, page, room)

    def test_many_pages(self):
        for fan in (2, 3, 8):
            for rooms in room_lists(200):
                tree = tree_by_pages(rooms, fan)
                for page in (0, 1, 99, 198, 199):
                    for room in (0, 5, 9, MOST):
                        self.held(tree, fan, page, room)

    def held(self, tree, fan, page, room):
        writes = self.told(ordered, tree, fan, page, room)
        after, from_below = changed(tree, fan, page, room)
        self.same(writes, from_below if room <= tree[0][page] else from_below[::-1], tree, fan, page, room)
        steps = [level for level, place, number in writes]
        self.assertEqual(steps, sorted(steps, reverse=room > tree[0][page]))
        for many in range(len(writes) + 1):
            self.assertTrue(is_safe_by_words(done(tree, writes[:many]), fan), (tree, fan, page, room, many))
        self.same(done(tree, writes), after)
        self.assertIsNone(fault(after, fan))
        if room == tree[0][page]:
            self.same(writes, [])

    def test_written_out(self):
        tree = [[3, 1, 4], [3, 4], [4]]
        self.tells_so([(0, 2, 2), (1, 1, 2), (2, 0, 3)], ordered, tree, 2, 2, 2)
        self.tells_so([(2, 0, 6), (1, 0, 6), (0, 1, 6)], ordered, tree, 2, 1, 6)
        self.tells_so([(1, 0, 4), (0, 0, 4)], ordered, tree, 2, 0, 4)
        self.tells_so([(0, 1, 0)], ordered, tree, 2, 1, 0)
        self.tells_so([], ordered, tree, 2, 1, 1)

    def test_refuses_pages_ahead_of_rooms(self):
        for fan in FANS:
            for pages in (0, 1, 2, 9, 200):
                tree = tree_by_pages([5] * pages, fan)
                for page in numbers_beyond(pages):
                    for room in (0, 5, 6, -1, MOST + 1, None, "5", True, [], {}):
                        self.refused(NoPage, ordered, tree, fan, page, room)

    def test_refuses_what_is_no_room(self):
        for fan in (2, 5):
            for pages in (1, 2, 9):
                tree = tree_by_pages([5] * pages, fan)
                for page in range(pages):
                    for thing in things_that_are_no_rooms():
                        self.refused(BadRoom, ordered, tree, fan, page, thing)


class Mended(Asking):
    """Points 5 and 28."""

    def held(self, tree, fan):
        rooms = tree[0] if tree else []
        whole = tree_by_pages(rooms, fan)
        was, now = told_by_node(tree), told_by_node(whole)
        mends = [(*node, was[node], now[node]) for node in sorted(was) if was[node] != now[node]]
        self.tells_so((whole, mends), mended, tree, fan)

    def test_whole_trees(self):
        for fan in FANS:
            for rooms in many_rooms(COUNTS) + room_lists(200):
                tree = tree_by_pages(rooms, fan)
                self.tells_so((tree, []), mended, tree, fan)
            self.tells_so(([], []), mended, [], fan)

    def test_trees_with_one_node_put_otherwise(self):
        for fan in (2, 3, 8):
            for rooms in many_rooms((1, 2, 7, 13)):
                tree = tree_by_pages(rooms, fan)
                for level, place in nodes_of(tree):
                    for number in (0, tree[level][place] + 1, MOST):
                        self.held(with_node(tree, level, place, number), fan)

    def test_trees_of_any_numbers(self):
        for fan in FANS:
            for pages in (1, 2, 3, 7, 13, 40, 200):
                for seed in range(4):
                    self.held(any_tree(seed, pages, fan, 4), fan)
                    self.held(safe_tree(seed, mixed_numbers(seed, pages, 9), fan, 2), fan)

    def test_a_change_that_was_stopped(self):
        for fan in FANS:
            for rooms in many_rooms((2, 7, 13)):
                tree = tree_by_pages(rooms, fan)
                for page in range(len(rooms)):
                    for room in (0, MOST):
                        writes = ordered(tree, fan, page, room)
                        for many in range(len(writes) + 1):
                            self.held(done(tree, writes[:many]), fan)

    def test_written_out(self):
        whole = [[3, 1, 4], [3, 4], [4]]
        self.tells_so((whole, []), mended, whole, 2)
        self.tells_so((whole, [(1, 0, 9, 3), (2, 0, 0, 4)]), mended, [[3, 1, 4], [9, 4], [0]], 2)
        self.tells_so(([[3, 5, 4], [5, 4], [5]], [(1, 0, 3, 5), (2, 0, 4, 5)]), mended, [[3, 5, 4], [3, 4], [4]], 2)
        self.tells_so(([[7]], []), mended, [[7]], 2)


if __name__ == "__main__":
    unittest.main()
