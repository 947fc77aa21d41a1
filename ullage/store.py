"""A store: things put into pages by a way, taken out again, and each deed taken back or done again."""

from ullage.blocks import block_of
from ullage.covers import check_page
from ullage.errors import BadLength, BadName, BadStore, Full, NoDeed, NoThing, Twice
from ullage.finds import best, first, near, round_from, worst
from ullage.longest import row_first
from ullage.shapes import LEAST_FAN, MOST_FAN, MOST_PAGES
from ullage.trees import built
from ullage.whole import is_between

WAYS = ("first", "further", "near", "best", "worst")
LETTERS = "abcdefghijklmnopqrstuvwxyz"
MOST_LETTERS = 8
PUT = "put"
OUT = "out"


def is_way(thing):
    return isinstance(thing, str) and thing in WAYS


def is_name(thing):
    if not isinstance(thing, str) or not 1 <= len(thing) <= MOST_LETTERS:
        return False
    return all([letter in LETTERS for letter in thing])


def found(way, tree, fan, need, at):
    if tree == []:
        return None
    if way == "further":
        return round_from(tree, fan, need, at)
    if way == "near":
        return near(tree, fan, need, at)
    if way == "best":
        return best(tree, fan, need)
    if way == "worst":
        return worst(tree, fan, need)
    return first(tree, fan, need)


def pages_of(thing):
    return list(range(thing[0], thing[0] + thing[1]))


class Store:
    def __init__(self, size, fan, way):
        if not is_between(size, 1, 10 ** 18):
            raise BadStore("the size is no whole number within the bounds")
        if not is_between(fan, LEAST_FAN, MOST_FAN):
            raise BadStore("the fan is no whole number within the bounds")
        if not is_way(way):
            raise BadStore("this is no way")
        self.size = size
        self.fan = fan
        self.way = way
        # For each page its room, and the names in it in the order in which they were put.
        self.lefts = []
        self.held = []
        # By each name a tuple: the first page, how many pages, what is taken in each of them.
        self.standing = {}
        # Tuples of a text, PUT or OUT, a name, its thing, and what it needs to be taken back: of a put
        # how many pages there were, of an out at which spot of each page the name stood.
        self.deeds = []
        self.deeds_back = []

    def put(self, name, length):
        self.check_new(name, length, 0, self.size)
        page = found(self.way, self.tree(), self.fan, length, self.last_told())
        if page is None:
            page = len(self.lefts)
        return self.put_thing(name, (page, 1, length))

    def put_row(self, name, many):
        self.check_new(name, many, 1, MOST_PAGES)
        page = row_first(self.empties(), self.fan, many)
        if page is None:
            page = len(self.lefts) - block_of(self.empties())[2]
        return self.put_thing(name, (page, many, self.size))

    def check_new(self, name, number, least, most):
        if not is_name(name):
            raise BadName("this is no name")
        if not is_between(number, least, most):
            raise BadLength("this is no whole number within the bounds")
        if name in self.standing:
            raise Twice("a thing stands by this name")

    def last_told(self):
        for deed in reversed(self.deeds):
            if deed[0] == PUT:
                return deed[2][0]
        return 0

    def put_thing(self, name, thing):
        if thing[0] + thing[1] > MOST_PAGES:
            raise Full("there would be too many pages")
        self.do_new((PUT, name, thing, len(self.lefts)))
        return thing[0]

    def out(self, name):
        self.check_stands(name)
        thing = self.standing[name]
        self.do_new((OUT, name, thing, [self.held[page].index(name) for page in pages_of(thing)]))
        return thing[0]

    def check_stands(self, name):
        if name not in self.standing:
            raise NoThing("no thing stands by this name")

    def do_new(self, deed):
        self.do(deed)
        self.deeds_back = []

    def do(self, deed):
        if deed[0] == PUT:
            self.set_in(deed[1], deed[2])
        else:
            self.take_out(deed[1], deed[2])
        self.deeds.append(deed)

    def set_in(self, name, thing):
        while len(self.lefts) < thing[0] + thing[1]:
            self.lefts.append(self.size)
            self.held.append([])
        for page in pages_of(thing):
            self.stand_at(name, thing, page, len(self.held[page]))

    def stand_at(self, name, thing, page, spot):
        self.held[page].insert(spot, name)
        self.lefts[page] = self.lefts[page] - thing[2]
        self.standing[name] = thing

    def take_out(self, name, thing):
        for page in pages_of(thing):
            self.held[page].remove(name)
            self.lefts[page] = self.lefts[page] + thing[2]
        self.standing.pop(name)

    def back(self):
        if self.deeds == []:
            raise NoDeed("there is no deed to take back")
        deed = self.deeds.pop()
        if deed[0] == PUT:
            self.take_out(deed[1], deed[2])
            self.lefts = self.lefts[:deed[3]]
            self.held = self.held[:deed[3]]
        else:
            for page, spot in zip(pages_of(deed[2]), deed[3]):
                self.stand_at(deed[1], deed[2], page, spot)
        self.deeds_back.append(deed)

    def again(self):
        if self.deeds_back == []:
            raise NoDeed("there is no deed to do again")
        self.do(self.deeds_back.pop())

    def where(self, name):
        self.check_stands(name)
        thing = self.standing[name]
        return (thing[0], thing[1], thing[1] * thing[2])

    def things(self, page):
        check_page((len(self.lefts), self.fan), page)
        return list(self.held[page])

    def names(self):
        return sorted(self.standing)

    def rooms(self):
        return list(self.lefts)

    def empties(self):
        return [held == [] for held in self.held]

    def tree(self):
        return built(self.lefts, self.fan)

    def sums(self):
        taken = sum([thing[1] * thing[2] for thing in self.standing.values()])
        return (len(self.lefts), len(self.standing), taken, sum(self.lefts))
