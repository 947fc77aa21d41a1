import unittest

from asking import Asking
from model import (
    FANS, cover_by_words, ends_by_begin, fewest_nodes, many_rooms, needs_for, pages_by_node,
    questions_beyond_the_pages, room_lists, ruled_out_further, ruled_out_near, searches, searches_at, tree_by_pages,
)
from ullage.errors import NoPage
from ullage.judge import honest, shows_best, shows_first, shows_further, shows_near
from ullage.papers import best_paper, first_paper, further_paper, near_paper


def with_numbers(tree, nodes):
    return [(level, place, tree[level][place]) for level, place in nodes]


def best_nodes(tree, nodes, need):
    """All nodes that tell less than need and whose parent doesn't, and each page that is enough."""
    found = []
    for (level, place), pages in nodes.items():
        less = tree[level][place] < need
        above = [one for one in nodes if one[0] == level + 1 and pages[0] in nodes[one]]
        parent_is_less = bool(above) and tree[above[0][0]][above[0][1]] < need
        if less and not parent_is_less or not less and level == 0:
            found.append((level, place))
    return sorted(found, key=lambda node: nodes[node][0])


class Papers(Asking):
    """Points 5, 18, 19 and 20; and that each told paper is honest and shows its page (22)."""

    def held(self, told, page, pages):
        """The page, and over these pages the fewest nodes there are, each with what it tells and below need."""
        begin, end = (pages[0], pages[-1] + 1) if pages else (0, 0)
        self.assertEqual(pages, list(range(begin, end)))
        paper = with_numbers(self.tree, cover_by_words(self.nodes, begin, end))
        self.same(told, (page, paper), self.tree)
        self.assertEqual(len(told[1]), fewest_nodes(self.ends, begin, end)[begin], self.tree)
        self.assertEqual([one for node in told[1] for one in self.nodes[node[:2]]], pages, self.tree)
        self.assertTrue(honest(self.tree, told[1]))

    def over(self, rooms, fan):
        self.shape = (len(rooms), fan)
        self.tree = tree_by_pages(rooms, fan)
        self.nodes = pages_by_node(self.shape)
        self.ends = ends_by_begin(self.nodes)

    def first_held(self, rooms, fan, need):
        page = searches(rooms, need)["first"]
        told = self.told(first_paper, self.tree, fan, need)
        self.held(told, page, ruled_out_further(len(rooms), 0, page))
        self.assertIs(shows_first(self.shape, need, page, told[1]), True)
        self.assertTrue(all(number < need for level, place, number in told[1]))

    def held_at(self, rooms, fan, need, at):
        pages = searches_at(rooms, need, at)
        told = self.told(further_paper, self.tree, fan, need, at)
        self.held(told, pages["further"], ruled_out_further(len(rooms), at, pages["further"]))
        self.assertIs(shows_further(self.shape, need, at, told[0], told[1]), True)
        self.assertTrue(all(number < need for level, place, number in told[1]))
        told = self.told(near_paper, self.tree, fan, need, at)
        self.held(told, pages["near"], ruled_out_near(len(rooms), at, pages["near"]))
        self.assertIs(shows_near(self.shape, need, at, told[0], told[1]), True)
        self.assertTrue(all(number < need for level, place, number in told[1]))

    def best_held(self, rooms, fan, need):
        told = self.told(best_paper, self.tree, fan, need)
        paper = with_numbers(self.tree, best_nodes(self.tree, self.nodes, need))
        self.same(told, (searches(rooms, need)["best"], paper), self.tree)
        self.assertEqual([one for node in told[1] for one in self.nodes[node[:2]]], list(range(len(rooms))))
        self.assertIs(honest(self.tree, told[1]), True)
        self.assertIs(shows_best(self.shape, need, told[0], told[1]), True)
        # In an honest paper that shows the best page only pages may tell need or more.
        usable = {
            node: pages for node, pages in self.nodes.items()
            if node[0] == 0 or self.tree[node[0]][node[1]] < need
        }
        self.assertEqual(len(told[1]), fewest_nodes(ends_by_begin(usable), 0, len(rooms))[0])

    def test_of_many_trees(self):
        for fan in FANS:
            for rooms in many_rooms((0, 1, 2, 3, 5, 9, 13)):
                self.over(rooms, fan)
                needs = needs_for(rooms)
                for need in needs[:5] + needs[-4:]:
                    self.first_held(rooms, fan, need)
                    self.best_held(rooms, fan, need)
                    for at in range(0, len(rooms), 1 if len(rooms) < 9 else 2):
                        self.held_at(rooms, fan, need, at)

    def test_one_page_that_is_enough_wherever_it_lies(self):
        for fan in (2, 3, 5):
            for pages in (6, 10):
                for page in range(pages):
                    rooms = [4 if one == page else one % 3 for one in range(pages)]
                    self.over(rooms, fan)
                    self.first_held(rooms, fan, 4)
                    self.best_held(rooms, fan, 4)
                    for at in range(pages):
                        self.held_at(rooms, fan, 4, at)

    def test_every_row_of_small_rooms(self):
        for number in range(3 ** 5):
            rooms = [number // 3 ** page % 3 for page in range(5)]
            self.over(rooms, 2)
            for need in (1, 2):
                self.first_held(rooms, 2, need)
                self.best_held(rooms, 2, need)
                self.held_at(rooms, 2, need, number % 5)

    def test_wide_trees(self):
        for fan in (2, 3, 8):
            for rooms in room_lists(200)[2:]:
                self.over(rooms, fan)
                needs = needs_for(rooms)
                for need in needs[::len(needs) // 3]:
                    self.first_held(rooms, fan, need)
                    for at in (0, 64, 99, 199):
                        self.held_at(rooms, fan, need, at)
        rooms = room_lists(200)[4]
        self.over(rooms, 3)
        for need in (0, 5, 10, 11):
            self.best_held(rooms, 3, need)

    def test_written_out(self):
        tree = [[3, 1, 4, 1, 5], [3, 4, 5], [4, 5], [5]]
        self.tells_so((0, []), first_paper, tree, 2, 2)
        self.tells_so((2, [(1, 0, 3)]), first_paper, tree, 2, 4)
        self.tells_so((4, [(2, 0, 4)]), first_paper, tree, 2, 5)
        self.tells_so((None, [(3, 0, 5)]), first_paper, tree, 2, 6)
        self.tells_so((4, [(0, 3, 1)]), further_paper, tree, 2, 2, 3)
        self.tells_so((4, [(0, 1, 1), (1, 1, 4)]), further_paper, tree, 2, 5, 1)
        self.tells_so((None, [(0, 3, 1), (2, 1, 5)]), further_paper, tree, 2, 6, 3)
        self.tells_so((2, [(0, 1, 1)]), further_paper, tree, 2, 3, 1)

    def test_near_papers_written_out(self):
        tree = [[3, 1, 4, 1, 5], [3, 4, 5], [4, 5], [5]]
        self.tells_so((2, []), near_paper, tree, 2, 4, 2)
        self.tells_so((0, [(0, 1, 1)]), near_paper, tree, 2, 3, 1)
        self.tells_so((2, [(1, 0, 3)]), near_paper, tree, 2, 4, 1)
        self.tells_so((2, [(1, 0, 3)]), near_paper, tree, 2, 4, 0)
        self.tells_so((4, [(2, 0, 4)]), near_paper, tree, 2, 5, 2)
        self.tells_so((2, [(0, 3, 1)]), near_paper, tree, 2, 4, 3)
        self.tells_so((None, [(3, 0, 5)]), near_paper, tree, 2, 6, 3)
        self.tells_so((0, [(0, 1, 0), (1, 1, 0)]), near_paper, [[5, 0, 0], [5, 0], [5]], 2, 3, 2)
        self.tells_so((3, [(1, 0, 2), (0, 2, 0)]), near_paper, [[2, 0, 0, 5], [2, 5], [5]], 2, 3, 1)
        self.tells_so((2, [(0, 0, 0), (0, 1, 0)]), near_paper, [[0, 0, 5, 0], [5]], 8, 3, 1)

    def test_best_papers_written_out(self):
        tree = [[3, 1, 4, 1, 5], [3, 4, 5], [4, 5], [5]]
        self.tells_so((2, [(1, 0, 3), (0, 2, 4), (0, 3, 1), (0, 4, 5)]), best_paper, tree, 2, 4)
        self.tells_so((4, [(2, 0, 4), (0, 4, 5)]), best_paper, tree, 2, 5)
        self.tells_so((None, [(3, 0, 5)]), best_paper, tree, 2, 6)
        self.tells_so((1, [(0, k, room) for k, room in enumerate(tree[0])]), best_paper, tree, 2, 0)
        self.tells_so((0, [(0, 0, 4)]), best_paper, [[4]], 2, 4)
        self.tells_so((None, [(0, 0, 4)]), best_paper, [[4]], 2, 5)

    def test_without_pages(self):
        for fan in FANS:
            for need in (0, 1, 10 ** 59):
                self.tells_so((None, []), first_paper, [], fan, need)
                self.tells_so((None, []), best_paper, [], fan, need)

    def test_refuses_what_is_no_page(self):
        for asked in (further_paper, near_paper):
            for tree, fan, need, at in questions_beyond_the_pages():
                self.refused(NoPage, asked, tree, fan, need, at)


if __name__ == "__main__":
    unittest.main()
