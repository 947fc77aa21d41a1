"""What becomes of a tree by another room, how many pages are enough, and where two trees part."""

from ullage.covers import check_page
from ullage.errors import BadRoom, Unlike
from ullage.trees import built, is_room, rooms_of, shape_of, with_told


def changed(tree, fan, page, room):
    check_page(shape_of(tree, fan), page)
    if not is_room(room):
        raise BadRoom("this is no room")
    rooms = rooms_of(tree)
    rooms[page] = room
    after = built(rooms, fan)
    return (after, with_told(after, unlike(tree, after)))


def enough(tree, need):
    return [page for page, room in enumerate(rooms_of(tree)) if room >= need]


def counted(tree, need):
    return len(enough(tree, need))


def nth(tree, need, k):
    pages = enough(tree, need)
    if 0 <= k < len(pages):
        return pages[k]
    return None


def check_alike(one, other):
    if len(rooms_of(one)) != len(rooms_of(other)):
        raise Unlike("the trees have unlike numbers of pages")


def parted(one, other):
    check_alike(one, other)
    for page, rooms in enumerate(zip(rooms_of(one), rooms_of(other))):
        if rooms[0] != rooms[1]:
            return (page, rooms[0], rooms[1])
    return None


def unlike(one, other):
    check_alike(one, other)
    nodes = []
    for level, numbers in enumerate(one):
        nodes.extend([(level, place) for place, number in enumerate(numbers) if number != other[level][place]])
    return nodes
