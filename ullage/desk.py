"""A desk: it keeps a store, takes lines and answers each with lines."""

from ullage.changes import counted
from ullage.errors import BadLength, BadScale, BadStore, Full, NoDeed, NoPage, NoThing, Twice
from ullage.finds import best, first, further, last, near, worst
from ullage.longest import row_first
from ullage.marks import checked_scale
from ullage.papers import first_paper
from ullage.roughly import rough_first
from ullage.store import Store, is_name, is_way
from ullage.texts import is_number, numbers_line, paper_line, rooms_line, tree_line

# By the first word of a line, of which kind each word behind it is.
KINDS = {
    "open": ("number", "number", "way"),
    "put": ("name", "number"),
    "row": ("name", "number"),
    "out": ("name",),
    "where": ("name",),
    "back": (),
    "again": (),
    "rooms": (),
    "tree": (),
    "names": (),
    "things": ("number",),
    "sums": (),
    "first": ("number",),
    "last": ("number",),
    "best": ("number",),
    "worst": ("number",),
    "near": ("number", "number"),
    "further": ("number", "number"),
    "counted": ("number",),
    "paper": ("number",),
    "rough": ("number", "number"),
    "free": ("number",),
}


def is_line(words):
    if words[0] not in KINDS:
        return False
    kinds = KINDS[words[0]]
    if len(words) != len(kinds) + 1:
        return False
    return all([is_of_kind(kind, words[at]) for at, kind in enumerate(kinds, start=1)])


def is_of_kind(kind, word):
    if kind == "number":
        return is_number(word)
    if kind == "name":
        return is_name(word)
    return is_way(word)


def page_line(page):
    if page is None:
        return "none"
    return str(page)


def put_answer(store, words):
    return [str(store.put(words[1], int(words[2])))]


def row_answer(store, words):
    return [str(store.put_row(words[1], int(words[2])))]


def out_answer(store, words):
    return [str(store.out(words[1]))]


def where_answer(store, words):
    return [numbers_line(store.where(words[1]))]


def back_answer(store, words):
    store.back()
    return ["ok"]


def again_answer(store, words):
    store.again()
    return ["ok"]


def rooms_answer(store, words):
    return [rooms_line(store.rooms())]


def tree_answer(store, words):
    return [tree_line(store.tree())]


def names_answer(store, words):
    return store.names()


def things_answer(store, words):
    return store.things(int(words[1]))


def sums_answer(store, words):
    return [numbers_line(store.sums())]


def first_answer(store, words):
    return [page_line(first(store.tree(), store.fan, int(words[1])))]


def last_answer(store, words):
    return [page_line(last(store.tree(), store.fan, int(words[1])))]


def best_answer(store, words):
    return [page_line(best(store.tree(), store.fan, int(words[1])))]


def worst_answer(store, words):
    return [page_line(worst(store.tree(), store.fan, int(words[1])))]


def near_answer(store, words):
    return [page_line(near(store.tree(), store.fan, int(words[1]), int(words[2])))]


def further_answer(store, words):
    return [page_line(further(store.tree(), store.fan, int(words[1]), int(words[2])))]


def counted_answer(store, words):
    return [str(counted(store.tree(), int(words[1])))]


def paper_answer(store, words):
    told = first_paper(store.tree(), store.fan, int(words[1]))
    return [page_line(told[0]), paper_line(told[1])]


def rough_answer(store, words):
    scale = checked_scale(store.size, int(words[1]))
    return [page_line(rough_first(scale, store.fan, store.rooms(), int(words[2])))]


def free_answer(store, words):
    many = int(words[1])
    if many == 0:
        raise BadLength("a row has one page at least")
    return [page_line(row_first(store.empties(), store.fan, many))]


# By the first word of a line, how the store answers it.
ANSWERS = {
    "put": put_answer,
    "row": row_answer,
    "out": out_answer,
    "where": where_answer,
    "back": back_answer,
    "again": again_answer,
    "rooms": rooms_answer,
    "tree": tree_answer,
    "names": names_answer,
    "things": things_answer,
    "sums": sums_answer,
    "first": first_answer,
    "last": last_answer,
    "best": best_answer,
    "worst": worst_answer,
    "near": near_answer,
    "further": further_answer,
    "counted": counted_answer,
    "paper": paper_answer,
    "rough": rough_answer,
    "free": free_answer,
}


class Desk:
    def __init__(self):
        self.store = None

    def say(self, line):
        words = line.split(" ")
        if not is_line(words):
            return ["no line"]
        try:
            return self.answered(words)
        except BadStore:
            return ["no store"]
        except BadLength:
            return ["no length"]
        except Twice:
            return ["no twice"]
        except Full:
            return ["no full"]
        except NoThing:
            return ["no thing"]
        except NoDeed:
            return ["no deed"]
        except NoPage:
            return ["no page"]
        except BadScale:
            return ["no scale"]

    def answered(self, words):
        if words[0] == "open":
            self.store = Store(int(words[1]), int(words[2]), words[3])
            return ["ok"]
        if self.store is None:
            raise BadStore("there is no store yet")
        return ANSWERS[words[0]](self.store, words)
