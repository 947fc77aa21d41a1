import unittest

from asking import Asking
from model import MOST, ODD_THINGS, things_that_are_no_rooms
from ullage.errors import BadRoom, BadScale
from ullage.marks import checked_scale, least_of, mark_for, mark_of, missed

SMALL_SCALES = [(size, bits) for size in list(range(1, 22)) + [31, 32, 33, 64, 100] for bits in (1, 2, 3, 4, 5)]
GREAT_SCALES = [
    (size, bits) for bits in (1, 2, 8, 15, 16)
    for size in (1, 2, 255, 65534, 65535, 65536, 10 ** 9 + 7, MOST - 1, MOST)
]


def greatest_mark(bits):
    return len(range(1, 2 ** bits))


def marks_of_rooms(scale):
    """For each room from 0 to size its mark, by a plain look at all marks."""
    size, bits = scale
    most = greatest_mark(bits)
    return [max(mark for mark in range(most + 1) if mark * size <= room * most) for room in range(size + 1)]


def mark_for_by_look(marks, most, need):
    for mark in range(most + 1):
        if all(room >= need for room in range(len(marks)) if marks[room] >= mark):
            return mark


class CheckedScale(Asking):
    """Point 23."""

    def test_tells_scales_at_the_bounds_and_within(self):
        for size in (1, 2, 255, 10 ** 9, MOST - 1, MOST):
            for bits in (1, 2, 8, 15, 16):
                self.tells_so((size, bits), checked_scale, size, bits)

    def test_refuses_numbers_beyond_the_bounds(self):
        bad_sizes = (0, -1, -MOST, -10 ** 59, MOST + 1, 2 * MOST, 10 ** 59)
        bad_bits = (0, -1, -16, -10 ** 59, 17, 32, 10 ** 59)
        for size in bad_sizes:
            for bits in (1, 16) + bad_bits:
                self.refused(BadScale, checked_scale, size, bits)
        for bits in bad_bits:
            for size in (1, 16, MOST):
                self.refused(BadScale, checked_scale, size, bits)

    def test_refuses_what_is_no_whole_number(self):
        for thing in ODD_THINGS:
            for number in (0, 1, 16, 17, MOST):
                self.refused(BadScale, checked_scale, thing, number)
                self.refused(BadScale, checked_scale, number, thing)
            for other in ODD_THINGS:
                self.refused(BadScale, checked_scale, thing, other)


class SmallScales(Asking):
    """Points 5 and 24, against a plain look at all rooms and marks."""

    def test_mark_of_each_room(self):
        for scale in SMALL_SCALES:
            for room, mark in enumerate(marks_of_rooms(scale)):
                self.tells_so(mark, mark_of, scale, room)

    def test_least_of_each_mark(self):
        for scale in SMALL_SCALES:
            marks = marks_of_rooms(scale)
            for mark in range(greatest_mark(scale[1]) + 1):
                least = min(room for room in range(len(marks)) if marks[room] >= mark)
                self.tells_so(least, least_of, scale, mark)

    def test_mark_for_and_missed_of_each_need(self):
        for scale in SMALL_SCALES:
            marks = marks_of_rooms(scale)
            for need in range(scale[0] + 1):
                mark = mark_for_by_look(marks, greatest_mark(scale[1]), need)
                self.tells_so(mark, mark_for, scale, need)
                passed = [room for room in range(need, scale[0] + 1) if marks[room] < mark]
                self.tells_so(max(passed) if passed else None, missed, scale, need)

    def test_written_out(self):
        self.assertEqual([mark_of((10, 2), room) for room in range(11)], [0, 0, 0, 0, 1, 1, 1, 2, 2, 2, 3])
        self.assertEqual([least_of((10, 2), mark) for mark in range(4)], [0, 4, 7, 10])
        self.assertEqual([mark_for((10, 2), need) for need in range(12)], [0, 1, 1, 1, 1, 2, 2, 2, 3, 3, 3, None])
        told = [missed((10, 2), need) for need in range(12)]
        self.assertEqual(told, [None, 3, 3, 3, None, 6, 6, None, 9, 9, None, None])

    def test_a_mark_that_no_room_has(self):
        self.assertEqual([mark_of((1, 3), room) for room in (0, 1)], [0, 7])
        self.tells_so(1, mark_for, (1, 3), 1)
        self.tells_so(1, least_of, (1, 3), 1)
        self.tells_so(None, missed, (1, 3), 1)
        self.assertEqual([mark_of((2, 16), room) for room in (0, 1, 2)], [0, 32767, 65535])
        self.tells_so(32768, mark_for, (2, 16), 2)
        self.tells_so(2, least_of, (2, 16), 32768)


class GreatScales(Asking):
    """Points 5 and 24, by what the words ask of each answer."""

    def rooms(self, scale):
        size, bits = scale
        most = greatest_mark(bits)
        rooms = {0, 1, 2, size // 2, size - 2, size - 1, size}
        for mark in (1, 2, most // 2, most - 1, most):
            rooms |= {mark * size // most + step for step in (-1, 0, 1)}
        return sorted(room for room in rooms if 0 <= room <= size)

    def test_mark_of(self):
        for scale in GREAT_SCALES:
            size, most = scale[0], greatest_mark(scale[1])
            for room in self.rooms(scale):
                mark = self.told(mark_of, scale, room)
                self.assertIs(type(mark), int)
                self.assertTrue(mark * size <= room * most < (mark + 1) * size, (scale, room))
            self.same((mark_of(scale, 0), mark_of(scale, size)), (0, most))

    def test_least_of(self):
        for scale in GREAT_SCALES:
            most = greatest_mark(scale[1])
            self.same((least_of(scale, 0), least_of(scale, most)), (0, scale[0]))
            for mark in {1, 2, most // 2, most - 1, most} - {0}:
                if mark <= most:
                    room = self.told(least_of, scale, mark)
                    self.assertIs(type(room), int)
                    self.assertGreaterEqual(mark_of(scale, room), mark)
                    self.assertLess(mark_of(scale, room - 1), mark)

    def test_mark_for(self):
        for scale in GREAT_SCALES:
            self.tells_so(0, mark_for, scale, 0)
            for need in self.rooms(scale)[1:]:
                mark = self.told(mark_for, scale, need)
                self.assertIs(type(mark), int)
                self.assertTrue(1 <= mark <= greatest_mark(scale[1]))
                self.assertGreaterEqual(least_of(scale, mark), need)
                self.assertLess(least_of(scale, mark - 1), need)

    def test_missed(self):
        for scale in GREAT_SCALES:
            self.tells_so(None, missed, scale, 0)
            for need in self.rooms(scale):
                mark = mark_for(scale, need)
                room = self.told(missed, scale, need)
                if room is None:
                    self.assertGreaterEqual(mark_of(scale, need), mark)
                else:
                    self.assertIs(type(room), int)
                    self.assertTrue(need <= room < scale[0])
                    self.assertLess(mark_of(scale, room), mark)
                    self.assertGreaterEqual(mark_of(scale, room + 1), mark)

    def test_none_where_need_is_above_size(self):
        for scale in SMALL_SCALES + GREAT_SCALES:
            for need in (scale[0] + 1, scale[0] + 2, 2 * scale[0] + 1, 10 ** 59):
                self.tells_so(None, mark_for, scale, need)
                self.tells_so(None, missed, scale, need)

    def test_needs_below_nought(self):
        for scale in SMALL_SCALES + GREAT_SCALES:
            for need in (-1, -2, -5, -scale[0], -scale[0] - 1, -10 ** 59):
                self.tells_so(0, mark_for, scale, need)
                self.tells_so(None, missed, scale, need)

    def test_marks_below_nought(self):
        for scale in SMALL_SCALES + GREAT_SCALES:
            for mark in (-1, -2, -5, -10 ** 59):
                self.tells_so(0, least_of, scale, mark)

    def test_scales_somewhat_beyond_the_bounds(self):
        for size in (1, 2, 10, MOST + 1):
            # By no bits at all each room has the mark 0, so every need above 0 misses all rooms.
            self.same([mark_of((size, 0), room) for room in (0, size)], [0, 0])
            self.same([least_of((size, 0), 0), mark_for((size, 0), 0), mark_for((size, 0), 1)], [0, 0, 1])
            self.same([missed((size, 0), need) for need in (-1, 0, 1, size, size + 1)], [None, None, size, size, None])
            self.same(mark_of((size, 17), size), 2 ** 17 - 1)

    def test_mark_of_refuses_what_is_no_room_of_the_scale(self):
        for scale in SMALL_SCALES[::7] + GREAT_SCALES:
            for thing in things_that_are_no_rooms(scale[0]):
                self.refused(BadRoom, mark_of, scale, thing)


if __name__ == "__main__":
    unittest.main()
