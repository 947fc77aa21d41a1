import unittest

from asking import Asking
from model import FANS, MOST, mixed_numbers, room_lists, tree_by_pages
from ullage.finds import first
from ullage.marks import least_of, mark_for, mark_of, missed
from ullage.roughly import passed, rough, rough_first

SIZES = (1, 2, 3, 7, 10, 254, 255, 256, 65534, 65535, 65536, MOST - 1, MOST)
SCALES = [(size, bits) for size in SIZES for bits in (1, 2, 3, 8, 15, 16)]
FEW_SCALES = [(1, 1), (1, 16), (10, 2), (7, 3), (100, 4), (65536, 16), (MOST, 8)]


def mark_by_look(scale, room):
    """The greatest number that is not above room times the greatest mark divided by size, by halving."""
    most = int("1" * scale[1], 2)
    low, high = 0, most
    while low < high:
        middle = (low + high + 1) // 2
        if middle * scale[0] <= room * most:
            low = middle
        else:
            high = middle - 1
    return low


def telling_rooms(scale):
    """0, the size, and about each of several marks the least room of it and one less."""
    size, bits = scale
    most = 2 ** bits - 1
    rooms = {0, 1, size // 2, size - 1, size}
    for mark in {1, 2, 3, most // 3, most // 2, most - 1, most}:
        if 1 <= mark <= most:
            rooms |= {least_of(scale, mark), least_of(scale, mark) - 1}
    return sorted(room for room in rooms if 0 <= room <= size)


def rooms_of_scale(scale):
    """Lists of rooms from 0 to size: none, one, rising, falling, mixed."""
    telling = telling_rooms(scale)
    lists = [[], [0], [scale[0]], telling, telling[::-1]]
    lists += [[telling[k % len(telling)] for k in mixed_numbers(seed, 17, 1000)] for seed in (1, 2)]
    lists += [[room % (scale[0] + 1) for room in rooms] for rooms in room_lists(9)]
    return lists


def needs_of_scale(scale, rooms):
    size = scale[0]
    needs = {0, 1, size - 1, size, size + 1, size + 2, 10 ** 59}
    for room in rooms:
        needs |= {room, room + 1}
    return sorted(need for need in needs)


class Rough(Asking):
    """Point 25."""

    def test_the_whole_tree_of_the_marks(self):
        for scale in SCALES:
            for rooms in rooms_of_scale(scale):
                marks = [mark_by_look(scale, room) for room in rooms]
                for fan in (2, 8):
                    self.tells_so(tree_by_pages(marks, fan), rough, scale, fan, rooms)

    def test_each_fan(self):
        for fan in FANS:
            for scale in FEW_SCALES:
                rooms = [room % (scale[0] + 1) for room in mixed_numbers(fan, 200, 10 ** 9)]
                marks = [mark_by_look(scale, room) for room in rooms]
                self.tells_so(tree_by_pages(marks, fan), rough, scale, fan, rooms)

    def test_written_out(self):
        self.tells_so([[0, 0, 1, 2, 3], [0, 2, 3], [2, 3], [3]], rough, (10, 2), 2, [0, 3, 4, 7, 10])
        self.tells_so([[0, 0, 1, 2, 3], [3]], rough, (10, 2), 5, [0, 3, 4, 7, 10])
        self.tells_so([[65535]], rough, (1, 16), 2, [1])

    def test_without_rooms(self):
        for scale in SCALES:
            for fan in FANS:
                self.tells_so([], rough, scale, fan, [])

    def test_rooms_beyond_the_scale_are_not_refused(self):
        self.tells_so([[3, 3, -1], [3, -1], [3]], rough, (10, 2), 2, [11, 12, -1])
        self.tells_so(1, rough_first, (10, 2), 2, [-1, 11], 10)
        self.tells_so([], passed, (10, 2), [-1, 11], 10)
        self.tells_so(None, rough_first, (10, 2), 2, [11, 12], 11)
        self.tells_so([], passed, (10, 2), [11, 12], 11)


class RoughFirst(Asking):
    """Points 5 and 25."""

    def test_against_a_plain_look_at_the_marks(self):
        for scale in SCALES:
            for rooms in rooms_of_scale(scale)[:6]:
                marks = [mark_by_look(scale, room) for room in rooms]
                for need in needs_of_scale(scale, rooms):
                    mark = mark_for(scale, need)
                    wanted = [page for page in range(len(rooms)) if mark is not None and marks[page] >= mark]
                    page = rough_first(scale, 3, rooms, need)
                    self.same(page, wanted[0] if wanted else None, scale, rooms, need)
                    if page is not None:
                        self.assertGreaterEqual(rooms[page], need)

    def test_each_fan_and_the_page_that_first_tells_of_the_rough_tree(self):
        for fan in FANS:
            for scale in FEW_SCALES:
                for rooms in rooms_of_scale(scale):
                    for need in needs_of_scale(scale, rooms):
                        mark = mark_for(scale, need)
                        wanted = None if mark is None else first(rough(scale, fan, rooms), fan, mark)
                        self.tells_so(wanted, rough_first, scale, fan, rooms, need)

    def test_written_out(self):
        rooms = [3, 6, 4, 7, 10]
        told = [rough_first((10, 2), 2, rooms, need) for need in range(13)]
        self.same(told, [0, 1, 1, 1, 1, 3, 3, 3, 4, 4, 4, None, None])

    def test_needs_below_nought(self):
        for scale in SCALES:
            for need in (-1, -2, -5, -10 ** 59):
                for rooms in rooms_of_scale(scale):
                    self.same(rough_first(scale, 2, rooms, need), 0 if rooms else None)
                    self.same(passed(scale, rooms, need), [])

    def test_none_where_no_page_is_told(self):
        for scale in SCALES:
            for fan in FANS:
                self.tells_so(None, rough_first, scale, fan, [], 0)
                for need in (scale[0] + 1, scale[0] + 2, 10 ** 59):
                    self.tells_so(None, rough_first, scale, fan, [scale[0]], need)
                    self.tells_so(None, rough_first, scale, fan, [], need)
                self.tells_so(None, rough_first, scale, fan, [scale[0] - 1], scale[0])
                self.tells_so(1, rough_first, scale, fan, [scale[0] - 1, scale[0]], scale[0])


class Passed(Asking):
    """Points 5 and 25."""

    def test_against_a_plain_look(self):
        for scale in SCALES:
            for rooms in rooms_of_scale(scale):
                for need in needs_of_scale(scale, rooms):
                    wanted = []
                    if need <= scale[0]:
                        for page, room in enumerate(rooms):
                            if room >= need and mark_by_look(scale, room) < mark_for(scale, need):
                                wanted.append(page)
                    self.same(passed(scale, rooms, need), wanted, scale, rooms, need)

    def test_each_has_at_most_the_room_that_missed_tells_and_is_never_told(self):
        for scale in SCALES:
            for rooms in rooms_of_scale(scale):
                for need in needs_of_scale(scale, rooms):
                    for page in self.told(passed, scale, rooms, need):
                        self.assertLessEqual(rooms[page], missed(scale, need))
                        self.assertNotEqual(rough_first(scale, 2, rooms, need), page)

    def test_a_page_ahead_of_the_told_one_is_passed_or_not_enough(self):
        for scale in FEW_SCALES:
            for rooms in rooms_of_scale(scale):
                for need in [need for need in needs_of_scale(scale, rooms) if need <= scale[0]]:
                    page = rough_first(scale, 2, rooms, need)
                    ahead = rooms if page is None else rooms[:page]
                    enough = [one for one, room in enumerate(ahead) if room >= need]
                    self.same([one for one in passed(scale, rooms, need) if one < len(ahead)], enough)

    def test_wherever_the_pages_lie(self):
        self.tells_so([0, 2, 4], passed, (10, 2), [6, 10, 5, 4, 6], 5)
        self.tells_so([0, 1], passed, (10, 2), [3, 2, 4, 0], 1)
        self.tells_so([], passed, (10, 2), [3, 2, 4, 0], 0)
        self.tells_so([1], passed, (10, 2), [10, 9], 8)

    def test_nothing_where_need_is_above_size_or_without_rooms(self):
        for scale in SCALES:
            for need in (scale[0] + 1, scale[0] + 2, 10 ** 59):
                self.tells_so([], passed, scale, [scale[0], 0], need)
            for need in (0, 1, scale[0], scale[0] + 1):
                self.tells_so([], passed, scale, [], need)

    def test_marks_stand_as_mark_of_tells_them(self):
        for scale in SCALES:
            for room in telling_rooms(scale):
                self.same(mark_by_look(scale, room), mark_of(scale, room))


if __name__ == "__main__":
    unittest.main()
