import unittest

from asking import Asking
from model import (
    FANS, many_rooms, needs_for, questions_beyond_the_pages, room_lists, searches, searches_at, tree_by_pages,
)
from ullage import finds
from ullage.errors import NoPage
from ullage.finds import best, first, further, last, near, round_from, worst


class Finding(Asking):
    """Points 5 and 16."""

    def held(self, rooms, fan, needs, places):
        tree = tree_by_pages(rooms, fan)
        for need in needs:
            for name, page in searches(rooms, need).items():
                self.tells_so(page, getattr(finds, name), tree, fan, need)
            for at in places:
                for name, page in searches_at(rooms, need, at).items():
                    self.tells_so(page, getattr(finds, name), tree, fan, need, at)

    def test_against_a_plain_look(self):
        for fan in FANS:
            for rooms in many_rooms((0, 1, 2, 3, 5, 8, 9, 13)):
                needs = needs_for(rooms)
                self.held(rooms, fan, needs[:7] + needs[-5:], range(len(rooms)))

    def test_every_row_of_small_rooms(self):
        for fan in (2, 3):
            for number in range(3 ** 5):
                rooms = [number // 3 ** page % 3 for page in range(5)]
                self.held(rooms, fan, (1, 2), range(5))

    def test_wide_trees(self):
        for fan in (2, 3, 8):
            for rooms in room_lists(200)[2:]:
                needs = needs_for(rooms)
                self.held(rooms, fan, needs[::len(needs) // 5], (0, 1, 63, 64, 99, 100, 101, 128, 198, 199))

    def test_one_page_far_off(self):
        for fan in FANS:
            for page in (0, 1, 77, 128, 199):
                rooms = [9 if one == page else 4 for one in range(200)]
                self.held(rooms, fan, (5, 9, 10), (0, 76, 77, 78, 127, 128, 129, 199))

    def test_of_two_alike_near_the_lesser(self):
        tree = tree_by_pages([0, 5, 0, 0, 0, 5, 0], 2)
        self.assertEqual([near(tree, 2, 5, at) for at in range(7)], [1, 1, 1, 1, 5, 5, 5])
        self.assertEqual(near(tree_by_pages([5, 0, 9], 2), 2, 5, 1), 0)
        self.assertEqual(near(tree_by_pages([9, 0, 5], 3), 3, 5, 1), 0)
        self.assertEqual(near(tree_by_pages([5, 0, 0, 5], 2), 2, 5, 2), 3)

    def test_written_out(self):
        tree = tree_by_pages([3, 7, 4, 7, 4], 2)
        self.assertEqual((first(tree, 2, 4), last(tree, 2, 4)), (1, 4))
        self.assertEqual((best(tree, 2, 4), worst(tree, 2, 4)), (2, 1))
        self.assertEqual((best(tree, 2, 0), worst(tree, 2, 0)), (0, 1))
        self.assertEqual((best(tree, 2, 5), worst(tree, 2, 8)), (1, None))
        self.assertEqual((further(tree, 2, 5, 2), further(tree, 2, 5, 4)), (3, None))
        self.assertEqual((round_from(tree, 2, 5, 2), round_from(tree, 2, 5, 4)), (3, 1))

    def test_none_without_pages(self):
        for fan in FANS:
            for need in (0, 1, 10 ** 59):
                for asked in (first, last, best, worst):
                    self.tells_so(None, asked, [], fan, need)

    def test_a_need_of_nought_is_met_by_a_room_of_nought(self):
        for fan in FANS:
            tree = tree_by_pages([0] * 9, fan)
            told = [asked(tree, fan, 0) for asked in (first, last, best, worst)]
            self.same(told, [0, 8, 0, 0])
            for at in range(9):
                self.same([asked(tree, fan, 0, at) for asked in (further, round_from, near)], [at] * 3)

    def test_refuses_what_is_no_page(self):
        for asked in (further, round_from, near):
            for tree, fan, need, at in questions_beyond_the_pages():
                self.refused(NoPage, asked, tree, fan, need, at)


if __name__ == "__main__":
    unittest.main()
