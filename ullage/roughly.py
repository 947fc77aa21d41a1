"""Searching by marks: pages told roughly, and those that such a search passes over."""

from ullage.finds import first
from ullage.marks import mark_for, mark_unchecked
from ullage.trees import built


def marks_of(scale, rooms):
    # Nothing is refused here, so a room beyond the scale has the mark that the reckoning gives it.
    return [mark_unchecked(scale, room) for room in rooms]


def rough(scale, fan, rooms):
    return built(marks_of(scale, rooms), fan)


def rough_first(scale, fan, rooms, need):
    mark = mark_for(scale, need)
    if mark is None:
        return None
    return first(rough(scale, fan, rooms), fan, mark)


def passed(scale, rooms, need):
    mark = mark_for(scale, need)
    if mark is None:
        return []
    marks = marks_of(scale, rooms)
    return [page for page, room in enumerate(rooms) if room >= need and marks[page] < mark]
