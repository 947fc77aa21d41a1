"""Marks: rooms told roughly, by few bits, on a scale (size, bits)."""

from ullage.errors import BadRoom, BadScale
from ullage.whole import is_between


def checked_scale(size, bits):
    if not is_between(size, 1, 10 ** 18):
        raise BadScale("the size is no whole number within the bounds")
    if not is_between(bits, 1, 16):
        raise BadScale("the bits are no whole number within the bounds")
    return (size, bits)


def greatest_mark(scale):
    marks = 1
    for bit in range(scale[1]):
        marks = marks * 2
    return marks - 1


def mark_of(scale, room):
    if not is_between(room, 0, scale[0]):
        raise BadRoom("this is no room of the scale")
    return mark_unchecked(scale, room)


def mark_unchecked(scale, room):
    return room * greatest_mark(scale) // scale[0]


def least_of(scale, mark):
    if mark <= 0:
        return 0
    most = greatest_mark(scale)
    return (mark * scale[0] + most - 1) // most


def mark_for(scale, need):
    if need > scale[0]:
        return None
    if need <= 0:
        return 0
    # Marks don't fall as rooms grow, so only the room right below need must be left out.
    return mark_of(scale, need - 1) + 1


def missed(scale, need):
    mark = mark_for(scale, need)
    if mark is None:
        return None
    room = greatest_below(scale, mark)
    if room < max(need, 0):
        return None
    return room


def greatest_below(scale, mark):
    if mark > greatest_mark(scale):
        return scale[0]
    return least_of(scale, mark) - 1
