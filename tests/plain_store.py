"""A second telling of a store: each deed makes a new state, and to take it back is to drop that state."""

from empties import row_first_by_look
from model import searches, searches_at


class PlainStore:
    def __init__(self, size, way):
        self.size = size
        self.way = way
        # A state: for each page a list of pairs (name, taken), and the page that was told last.
        self.states = [([], 0)]
        self.dropped = []

    def pages(self):
        return self.states[-1][0]

    def rooms(self):
        return [self.size - sum(taken for name, taken in page) for page in self.pages()]

    def empties(self):
        return [len(page) == 0 for page in self.pages()]

    def names(self):
        return sorted({name for page in self.pages() for name, taken in page})

    def where(self, name):
        held = [page for page, pairs in enumerate(self.pages()) if name in dict(pairs)]
        return (held[0], len(held), sum(dict(self.pages()[page])[name] for page in held))

    def things(self, page):
        return [name for name, taken in self.pages()[page]]

    def sums(self):
        taken = sum(taken for page in self.pages() for name, taken in page)
        return (len(self.pages()), len(self.names()), taken, len(self.pages()) * self.size - taken)

    def page_for(self, length):
        if not self.pages():
            return 0
        told = searches(self.rooms(), length) | searches_at(self.rooms(), length, self.states[-1][1])
        page = told["round_from" if self.way == "further" else self.way]
        return len(self.pages()) if page is None else page

    def page_for_row(self, many):
        page = row_first_by_look(self.empties(), many)
        if page is None:
            page = len(self.pages())
            while page > 0 and self.empties()[page - 1]:
                page -= 1
        return page

    def put(self, name, length):
        return self.enter(name, self.page_for(length), 1, length)

    def put_row(self, name, many):
        return self.enter(name, self.page_for_row(many), many, self.size)

    def enter(self, name, page, many, taken):
        pages = [list(pairs) for pairs in self.pages()]
        pages += [[] for _ in range(page + many - len(pages))]
        for one in range(page, page + many):
            pages[one].append((name, taken))
        return self.step(pages, page, page)

    def out(self, name):
        page = self.where(name)[0]
        pages = [[pair for pair in pairs if pair[0] != name] for pairs in self.pages()]
        return self.step(pages, self.states[-1][1], page)

    def step(self, pages, at, told):
        self.states.append((pages, at))
        self.dropped = []
        return told

    def back(self):
        self.dropped.append(self.states.pop())

    def again(self):
        self.states.append(self.dropped.pop())
