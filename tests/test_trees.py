import unittest

from asking import Asking
from model import (
    FANS, MOST, ODD_THINGS, many_rooms, pages_by_node, room_lists, rows_of_pages, things_that_are_no_nodes,
    things_that_are_no_rooms, tree_by_pages,
)
from ullage.errors import NoNode, NotATree, NotRooms
from ullage.trees import built, checked_rooms, checked_tree, fault, greatest, tells, total

LEAPS = (0, 1, 2, 8, 9, 64, 65, 199, 200)


def copied(tree):
    return [list(level) for level in tree]


def put(tree, node, number):
    """A tree like this one, but for one node."""
    other = copied(tree)
    other[node[0]][node[1]] = number
    return other


def fits(lists, fan):
    """Whether these lists are as long as the levels of a tree over some pages."""
    pages = len(lists[0]) if lists else 0
    return [len(one) for one in lists] == [len(row) for row in rows_of_pages((pages, fan))]


def trees_by_fan(counts=(0, 1, 2, 3, 5, 9, 14)):
    return [(tree_by_pages(rooms, fan), fan) for rooms in many_rooms(counts) for fan in FANS]


class CheckedRooms(Asking):
    """Point 10."""

    def wrong_at(self, at, rooms):
        refusal = self.refused(NotRooms, checked_rooms, rooms)
        self.same(refusal.at, at)

    def test_tells_right_rooms(self):
        for many in LEAPS:
            for rooms in room_lists(many):
                self.tells_so(list(rooms), checked_rooms, rooms)
        self.tells_so([0, MOST, 0, MOST], checked_rooms, [0, MOST, 0, MOST])

    def test_more_than_200_are_wrong_at_200(self):
        for many in (201, 202, 300):
            for rooms in room_lists(many):
                self.wrong_at(200, rooms)

    def test_one_wrong_thing(self):
        for thing in things_that_are_no_rooms():
            for many in (1, 2, 7, 199, 200, 201, 300):
                for place in {0, many // 2, min(many, 200) - 1}:
                    rooms = [3] * many
                    rooms[place] = thing
                    self.wrong_at(place, rooms)

    def test_the_first_of_two_wrong_things(self):
        for one in things_that_are_no_rooms():
            for other in things_that_are_no_rooms():
                self.wrong_at(2, [1, 0, one, 4, other, 5])
                self.wrong_at(0, [one, other])

    def test_wrong_things_from_200_on(self):
        for thing in things_that_are_no_rooms():
            for place in (200, 201, 299):
                rooms = [MOST] * 300
                rooms[place] = thing
                self.wrong_at(200, rooms)
                rooms[199] = thing
                self.wrong_at(199, rooms)

    def test_what_was_handed_in_may_be_changed_later(self):
        rooms = [1, 2, 3]
        told = checked_rooms(rooms)
        rooms[0] = 9
        rooms.append(4)
        self.assertEqual(told, [1, 2, 3])


class Built(Asking):
    """Point 11."""

    def test_each_node_tells_the_greatest_of_its_pages(self):
        for fan in FANS:
            for rooms in many_rooms(LEAPS + (17, 25)):
                self.tells_so(tree_by_pages(rooms, fan), built, rooms, fan)

    def test_written_out(self):
        self.tells_so([], built, [], 2)
        self.tells_so([[4]], built, [4], 8)
        self.tells_so([[0, 0], [0]], built, [0, 0], 2)
        self.tells_so([[3, 1, 4, 1, 5], [3, 4, 5], [4, 5], [5]], built, [3, 1, 4, 1, 5], 2)
        self.tells_so([[3, 1, 4, 1, 5], [4, 5], [5]], built, [3, 1, 4, 1, 5], 3)
        self.tells_so([[3, 1, 4, 1, 5], [5]], built, [3, 1, 4, 1, 5], 5)

    def test_what_was_handed_in_may_be_changed_later(self):
        rooms = [1, 2, 3]
        tree = built(rooms, 2)
        rooms[0] = 9
        self.assertEqual(tree, [[1, 2, 3], [2, 3], [3]])


class CheckedTree(Asking):
    """Point 11."""

    def no_tree(self, thing, fan):
        self.refused(NotATree, checked_tree, thing, fan)

    def a_tree_where_it_fits(self, lists, fan):
        if fits(lists, fan):
            self.tells_so(copied(lists), checked_tree, lists, fan)
        else:
            self.no_tree(lists, fan)

    def test_tells_whole_trees(self):
        for tree, fan in trees_by_fan((0, 1, 2, 3, 9, 14, 199, 200)):
            self.tells_so(copied(tree), checked_tree, tree, fan)

    def test_tells_trees_that_are_not_whole(self):
        for tree, fan in trees_by_fan((1, 3, 9)):
            for level, row in enumerate(tree):
                for place in range(len(row)):
                    for number in (0, 1, MOST):
                        other = put(tree, (level, place), number)
                        self.tells_so(copied(other), checked_tree, other, fan)

    def test_a_level_less_or_more_at_any_place(self):
        for tree, fan in trees_by_fan():
            for level in range(len(tree) + 1):
                for more in ([], [0], [5], [5, 5], [0] * (len(tree[0]) if tree else 3)):
                    self.a_tree_where_it_fits(tree[:level] + [more] + tree[level:], fan)
            for level in range(len(tree)):
                self.a_tree_where_it_fits(tree[:level] + tree[level + 1:], fan)

    def test_without_pages_there_is_no_level(self):
        for fan in FANS:
            self.tells_so([], checked_tree, [], fan)
            self.no_tree([[]], fan)
            self.no_tree([[], []], fan)
            self.no_tree([[], [0]], fan)
            self.tells_so([[0]], checked_tree, [[0]], fan)

    def test_the_top_is_lacking_or_stands_twice(self):
        for tree, fan in trees_by_fan((2, 3, 9, 14, 200)):
            self.no_tree(tree[:-1], fan)
            self.no_tree(tree + [tree[-1]], fan)
            self.no_tree([tree[0]] + tree, fan)
            self.no_tree(tree[::-1], fan)

    def test_a_number_less_or_more_in_a_level(self):
        for tree, fan in trees_by_fan((1, 2, 3, 9, 14)):
            for level in range(len(tree)):
                more = copied(tree)
                more[level].append(0)
                less = copied(tree)
                less[level].pop()
                for other in (more, less):
                    self.a_tree_where_it_fits(other, fan)
        self.no_tree([[1, 2, 3], [2, 3, 0], [3]], 2)
        self.no_tree([[1, 2, 3], [3], [3]], 2)
        self.no_tree([[1, 2, 3], [2, 3], [3, 3]], 2)
        self.no_tree([[1, 2, 3], [2, 3], []], 2)

    def test_a_number_that_is_none_or_out_of_bounds(self):
        for fan in (2, 8):
            for tree in (tree_by_pages([4], fan), tree_by_pages(list(range(11)), fan)):
                for node in [(level, place) for level in range(len(tree)) for place in range(len(tree[level]))]:
                    for thing in things_that_are_no_rooms():
                        self.no_tree(put(tree, node, thing), fan)

    def test_something_else_in_the_place_of_a_level(self):
        for fan in FANS:
            for tree in (tree_by_pages([4], fan), tree_by_pages(list(range(9)), fan)):
                for level in range(len(tree)):
                    held = tree[level]
                    for thing in [tuple(held), dict.fromkeys(held, 0), dict(enumerate(held)), "".join(map(str, held))]:
                        self.no_tree(tree[:level] + [thing] + tree[level + 1:], fan)
                    for thing in things_that_are_no_rooms() + [0, 4]:
                        if not isinstance(thing, list):
                            self.no_tree(tree[:level] + [thing] + tree[level + 1:], fan)

    def test_something_else_in_the_place_of_a_tree(self):
        for fan in FANS:
            for thing in ODD_THINGS + [0, 4, -1, 10 ** 59, "[[4]]", ([4],), ((4,),), {0: [4]}, [[[4]]], [[], [4]]]:
                if not (isinstance(thing, list) and thing == []):
                    self.no_tree(thing, fan)
            for tree in (tree_by_pages([4], fan), tree_by_pages(list(range(9)), fan)):
                self.no_tree(tuple(tree), fan)
                self.no_tree(tuple(tuple(level) for level in tree), fan)
                self.no_tree([tree], fan)

    def test_another_fans_tree(self):
        for fan in FANS:
            for other in FANS:
                for pages in (3, 5, 9, 65, 200):
                    tree = tree_by_pages(list(range(pages)), other)
                    self.a_tree_where_it_fits(tree, fan)
        self.tells_so([[1, 2], [2]], checked_tree, [[1, 2], [2]], 2)
        self.tells_so([[1, 2], [2]], checked_tree, [[1, 2], [2]], 8)
        self.no_tree([[1, 2, 3], [2, 3], [3]], 3)
        self.no_tree([[1, 2, 3], [3]], 2)

    def test_no_tree_stands_over_more_than_200_pages(self):
        for fan in FANS:
            self.tells_so(tree_by_pages([7] * 200, fan), checked_tree, tree_by_pages([7] * 200, fan), fan)
            self.no_tree(tree_by_pages([7] * 201, fan), fan)

    def test_what_was_handed_in_may_be_changed_later(self):
        tree = [[1, 2], [2]]
        told = checked_tree(tree, 2)
        tree[0][0] = 9
        tree.append([9])
        self.assertEqual(told, [[1, 2], [2]])


class Fault(Asking):
    """Point 11."""

    def test_none_in_a_whole_tree(self):
        for tree, fan in trees_by_fan((0, 1, 2, 3, 9, 14, 200)):
            self.tells_so(None, fault, tree, fan)

    def by_the_words(self, tree, fan):
        nodes = pages_by_node((len(tree[0]), fan))
        for level, place in sorted(nodes):
            beneath = [
                tree[one[0]][one[1]] for one in nodes
                if one[0] == level - 1 and nodes[one][0] in nodes[(level, place)]
            ]
            if level > 0 and tree[level][place] != max(beneath):
                return (level, place)
        return None

    def test_one_node_put_otherwise(self):
        for tree, fan in trees_by_fan((1, 2, 3, 9, 14)):
            for level, row in enumerate(tree):
                for place, told in enumerate(row):
                    for number in (0, told - 1, told + 1, MOST):
                        other = put(tree, (level, place), number)
                        self.tells_so(self.by_the_words(other, fan), fault, other, fan)

    def test_two_nodes_put_otherwise(self):
        for fan in (2, 3):
            tree = tree_by_pages([4, 1, 3, 3, 0, 2, 8], fan)
            nodes = list(pages_by_node((7, fan)))
            for one in nodes:
                for other in nodes:
                    twice = put(put(tree, one, 6), other, 5)
                    self.tells_so(self.by_the_words(twice, fan), fault, twice, fan)

    def test_written_out(self):
        self.tells_so((1, 1), fault, [[1, 2, 3], [2, 2], [4]], 2)
        self.tells_so((2, 0), fault, [[1, 2, 3], [2, 3], [4]], 2)
        self.tells_so((1, 0), fault, [[1, 2, 3], [1, 2], [2]], 2)
        self.tells_so((2, 0), fault, [[1, 2, 3], [2, 3], [2]], 2)
        self.tells_so(None, fault, [[9]], 2)


class Telling(Asking):
    """Point 12."""

    def test_tells_of_each_node(self):
        for tree, fan in trees_by_fan((1, 2, 3, 9, 14, 200)):
            for node in pages_by_node((len(tree[0]), fan)):
                self.tells_so(tree[node[0]][node[1]], tells, tree, node)

    def test_tells_of_trees_that_are_not_whole(self):
        tree = [[1, 2, 3], [7, 0], [5]]
        told = {(0, 0): 1, (0, 1): 2, (0, 2): 3, (1, 0): 7, (1, 1): 0, (2, 0): 5}
        for node, number in told.items():
            self.tells_so(number, tells, tree, node)

    def test_refuses_what_is_no_node(self):
        for tree, fan in trees_by_fan((0, 1, 3, 9)):
            shape = (len(tree[0]) if tree else 0, fan)
            for thing in things_that_are_no_nodes(shape):
                self.refused(NoNode, tells, tree, thing)

    def test_greatest(self):
        for tree, fan in trees_by_fan((0, 1, 2, 9, 14, 200)):
            self.tells_so(max(tree[0]) if tree else 0, greatest, tree)
        self.tells_so(0, greatest, [])
        self.tells_so(4, greatest, [[1, 2, 9], [9, 9], [4]])
        self.tells_so(9, greatest, [[1, 2, 3], [2, 3], [9]])
        self.tells_so(0, greatest, [[7, 7], [0]])

    def test_total(self):
        for tree, fan in trees_by_fan((0, 1, 2, 9, 14, 200)):
            self.tells_so(sum(tree[0]) if tree else 0, total, tree)
        self.tells_so(0, total, [])
        self.tells_so(6, total, [[1, 2, 3], [9, 9], [9]])
        self.tells_so(200 * MOST, total, tree_by_pages([MOST] * 200, 2))


if __name__ == "__main__":
    unittest.main()
