import itertools
import unittest

from asking import Asking
from empties import all_empties, block_by_look, long_empties, stretches_by_look
from model import FANS, mixed_numbers, rows_of_pages
from ullage.blocks import block_of, blocks, joined, stretches


class BlockOf(Asking):
    """Point 30."""

    def test_all_lists_of_few_pages(self):
        for empties in all_empties(8):
            self.tells_so(block_by_look(empties), block_of, empties)

    def test_many_pages(self):
        for empties in long_empties():
            self.tells_so(block_by_look(empties), block_of, empties)

    def test_written_out(self):
        self.tells_so((0, 0, 0, 0), block_of, [])
        self.tells_so((1, 1, 1, 1), block_of, [True])
        self.tells_so((1, 0, 0, 0), block_of, [False])
        self.tells_so((7, 0, 2, 3), block_of, [False, True, True, True, False, True, True])
        self.tells_so((8, 1, 2, 3), block_of, [True, False, True, True, True, False, True, True])


class Joined(Asking):
    """Point 30."""

    def test_of_two_parts_it_is_the_block_of_both(self):
        for empties in all_empties(7):
            for cut in range(len(empties) + 1):
                one, other = block_of(empties[:cut]), block_of(empties[cut:])
                self.tells_so(block_by_look(empties), joined, one, other)

    def test_in_whatever_grouping(self):
        parts = [block_of(empties) for empties in all_empties(3)]
        for one, other, third in itertools.product(parts, repeat=3):
            self.same(joined(joined(one, other), third), joined(one, joined(other, third)))

    def test_long_lists_in_parts(self):
        for empties in long_empties():
            for cut in range(0, len(empties) + 1, 7):
                self.same(joined(block_of(empties[:cut]), block_of(empties[cut:])), block_by_look(empties))

    def test_any_numbers(self):
        for one in itertools.product((-2, -1, 0, 1, 3), repeat=4):
            for other in ((0, 0, 0, 0), (1, 1, 1, 1), (2, 0, 2, 5), (-1, -1, 3, -7), (3, 1, 0, -4), (0, 7, 0, 1)):
                self.reckoned(one, other)
                self.reckoned(other, one)

    def test_numbers_of_many_figures(self):
        great = 10 ** 59
        for one in itertools.product((great, -great, great - 1), repeat=4):
            for other in ((great, great, great, great), (-great, 1, -great, great), (1, 2, 3, 4)):
                self.reckoned(one, other)
                self.reckoned(other, one)

    def reckoned(self, one, other):
        many, ahead, behind, longest = one
        other_many, other_ahead, other_behind, other_longest = other
        wanted = (
            many + other_many,
            {True: many + other_ahead, False: ahead}[ahead == many],
            {True: other_many + behind, False: other_behind}[other_behind == other_many],
            sorted([longest, other_longest, behind + other_ahead])[-1],
        )
        self.tells_so(wanted, joined, one, other)

    def test_written_out(self):
        self.tells_so((5, 2, 1, 3), joined, (3, 2, 0, 2), (2, 1, 1, 3))
        self.tells_so((5, 0, 4, 4), joined, (3, 0, 2, 2), (2, 2, 2, 2))
        self.tells_so((5, 4, 0, 4), joined, (3, 3, 3, 3), (2, 1, 0, 1))
        self.tells_so((5, 5, 5, 5), joined, (3, 3, 3, 3), (2, 2, 2, 2))


class Blocks(Asking):
    """Point 30."""

    def held(self, empties, fan):
        rows = rows_of_pages((len(empties), fan))
        wanted = [[block_by_look([empties[page] for page in held]) for held in row] for row in rows]
        self.tells_so(wanted, blocks, empties, fan)

    def test_each_fan(self):
        for fan in FANS:
            for empties in all_empties(6) + long_empties():
                self.held(empties, fan)

    def test_each_number_of_pages(self):
        for fan in (2, 3, 8):
            for pages in range(70):
                self.held([number > 0 for number in mixed_numbers(pages, pages, 3)], fan)

    def test_written_out(self):
        for fan in FANS:
            self.tells_so([], blocks, [], fan)
            self.tells_so([[(1, 1, 1, 1)]], blocks, [True], fan)
        low = [(1, 1, 1, 1), (1, 0, 0, 0), (1, 1, 1, 1)]
        self.tells_so([low, [(2, 1, 0, 1), (1, 1, 1, 1)], [(3, 1, 1, 1)]], blocks, [True, False, True], 2)


class Stretches(Asking):
    """Point 31."""

    def test_all_lists_of_few_pages(self):
        for empties in all_empties(8):
            self.tells_so(stretches_by_look(empties), stretches, empties)

    def test_many_pages(self):
        for empties in long_empties():
            self.tells_so(stretches_by_look(empties), stretches, empties)

    def test_written_out(self):
        self.tells_so([], stretches, [])
        self.tells_so([(0, 3)], stretches, [True, True, True])
        self.tells_so([], stretches, [False, False])
        self.tells_so([(0, 1)], stretches, [True, False, False])
        self.tells_so([(2, 3)], stretches, [False, False, True])
        self.tells_so([(0, 2), (3, 4), (6, 8)], stretches, [True, True, False, True, False, False, True, True])


if __name__ == "__main__":
    unittest.main()
