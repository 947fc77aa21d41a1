import unittest

from asking import Asking
from model import FANS, MOST, ODD_THINGS, mixed_numbers, numbers_beyond, tree_by_pages
from plain_store import PlainStore
from ullage.errors import BadLength, BadName, BadStore, Full, NoDeed, NoPage, NoThing, Twice
from ullage.finds import best, first, near, round_from, worst
from ullage.longest import row_first
from ullage.store import Store

WAYS = ("first", "further", "near", "best", "worst")
BAD_NAMES = ODD_THINGS[:4] + ODD_THINGS[5:] + [
    "a text", "A", "aB", "a1", "1", "a b", " a", "a ", "a-b", "_", "abcdefghi", "abcdefghijklmnop", "Zz", "~", "a\n",
    0, 1, -1, 10 ** 59, ["a"], ("a",), {"a": 1},
]
BAD_LENGTHS = [thing for thing in ODD_THINGS] + [-1, -MOST, -10 ** 59]
NAMES = [one + other for one in "abcdefghijklmnopqrst" for other in "uvwxyzabcdefg"]


def full_store(size=10, fan=2, way="first", pages=200):
    """A store with so many pages, all full, and no deed to take back beyond one for each."""
    store = Store(size, fan, way)
    for name in NAMES[:pages]:
        store.put(name, size)
    return store


class Stores(Asking):
    def everything(self, store):
        """All that a store tells, each list of it the asker's own."""
        pages, names = len(store.rooms()), store.names()
        return (
            [self.told(store.where, name) for name in names],
            [self.told(store.things, page) for page in range(pages)],
            self.told(store.names), self.told(store.rooms), self.told(store.empties),
            self.told(store.tree), self.told(store.sums),
        )

    def stands_like(self, store, fan, plain):
        names, pages = plain.names(), plain.pages()
        wanted = (
            [plain.where(name) for name in names],
            [plain.things(page) for page in range(len(pages))],
            names, plain.rooms(), plain.empties(), tree_by_pages(plain.rooms(), fan), plain.sums(),
        )
        self.same(self.everything(store), wanted)

    def kept(self, kind, store, asked, *args):
        """The refusal of a deed: all that the store tells stays."""
        before = self.everything(store)
        self.refused(kind, asked, *args)
        self.same(self.everything(store), before)


class Making(Stores):
    """Point 33."""

    def test_a_new_store_has_no_pages(self):
        for size in (1, 2, 10, MOST - 1, MOST):
            for fan in FANS:
                for way in WAYS:
                    store = Store(size, fan, way)
                    self.same(self.everything(store), ([], [], [], [], [], [], (0, 0, 0, 0)))
                    self.kept(NoDeed, store, store.back)
                    self.kept(NoDeed, store, store.again)
                    for page in (0, 1, -1, 10 ** 59):
                        self.kept(NoPage, store, store.things, page)
                    for name in ("a", "zzzzzzzz"):
                        self.kept(NoThing, store, store.out, name)
                        self.kept(NoThing, store, store.where, name)

    def test_refuses_what_makes_none(self):
        bad_sizes = ODD_THINGS + [0, -1, -10 ** 59, MOST + 1, 2 * MOST, 10 ** 59]
        bad_fans = ODD_THINGS + [1, 0, -1, -2, -10 ** 59, 9, 10, 10 ** 59]
        bad_ways = ODD_THINGS + [0, 1, "First", "firs", "firstt", "first ", " first", "last", "round_from", "f", 10 ** 59]
        for size in bad_sizes:
            self.refused(BadStore, Store, size, 2, "first")
        for fan in bad_fans:
            self.refused(BadStore, Store, 10, fan, "near")
        for way in bad_ways + [["first"], ("first",), {"first": 1}]:
            self.refused(BadStore, Store, 10, 2, way)
        for size in bad_sizes[::3]:
            for fan in bad_fans[::3]:
                for way in bad_ways[::3]:
                    self.refused(BadStore, Store, size, fan, way)


class Put(Stores):
    """Points 5 and 34."""

    def test_the_first_one_adds_a_page(self):
        for way in WAYS:
            for size in (1, 10, MOST):
                for length in (0, 1, size):
                    store = Store(size, 2, way)
                    self.same(store.put("a", length), 0)
                    self.same(store.rooms(), [size - length])
                    self.same(store.where("a"), (0, 1, length))
                    self.same(store.sums(), (1, 1, length, size - length))

    def test_each_way_written_out(self):
        told = {}
        for way in WAYS:
            store = Store(10, 2, way)
            told[way] = [store.put(name, length) for name, length in zip("abcdefgh", (6, 7, 8, 9, 3, 2, 1, 1))]
        self.same(told, {
            "first": [0, 1, 2, 3, 0, 1, 0, 1],
            "further": [0, 1, 2, 3, 0, 1, 1, 2],
            "near": [0, 1, 2, 3, 1, 0, 0, 0],
            "best": [0, 1, 2, 3, 1, 2, 3, 0],
            "worst": [0, 1, 2, 3, 0, 1, 2, 0],
        })

    def test_a_thing_of_the_size_needs_an_empty_page(self):
        for way in WAYS:
            store = Store(10, 3, way)
            self.same([store.put("a", 10), store.put("b", 10), store.put("c", 0), store.put("d", 10)][3], 2)
            store.out("b")
            if store.where("c")[0] == 1:
                store.out("c")
            self.same(store.put("e", 10), 1)

    def test_a_thing_of_no_length_stands_in_a_full_page(self):
        store = Store(10, 2, "first")
        self.same([store.put("a", 10), store.put("b", 0), store.put_row("c", 2), store.put("d", 0)], [0, 0, 1, 0])
        store = Store(10, 2, "further")
        self.same([store.put_row("a", 2), store.put("b", 0), store.put("c", 0)], [0, 0, 0])
        self.same(store.empties(), [False, False])
        store.out("a")
        self.same((store.rooms(), store.empties(), store.things(0)), ([10, 10], [False, True], ["b", "c"]))

    def test_the_page_at(self):
        for way, behind_outs, behind_backs in (("further", 0, 0), ("near", 2, 1)):
            store = Store(10, 2, way)
            for name in "abcd":
                store.put(name, 10)
            for name in "abc":
                store.out(name)
            # The last put told page 3; the outs told others, but don't count.
            self.same(store.put("e", 4), behind_outs, way)
            for _ in range(5):
                store.back()
            # Now a, b and c stand alone, and the last put that is not taken back told page 2.
            for name in "cba":
                store.out(name)
            self.same(store.put("f", 1), 2, way)
            self.same(store.put("g", 10), behind_backs, way)

    def test_the_page_at_behind_again(self):
        for way in ("further", "near"):
            store = Store(10, 2, way)
            for name in "abcde":
                store.put(name, 10)
            store.back()
            store.back()
            store.back()
            store.again()
            store.again()
            # The page at is 3: c and d were done again, e was not.
            for name in "abcd":
                store.out(name)
            self.same(store.put("x", 10), 3, way)

    def test_the_page_at_behind_a_row(self):
        for way in ("further", "near"):
            store = Store(10, 2, way)
            store.put("a", 10)
            self.same(store.put_row("b", 3), 1)
            store.put("c", 10)
            self.same(store.where("c")[0], 4)
            store.back()
            store.out("b")
            # The row told its first page, 1.
            self.same(store.put("d", 5), 1, way)
            store.out("a")
            store.put_row("e", 1)
            self.same(store.where("e"), (0, 1, 10))
            store.out("e")
            self.same(store.put("f", 10), 0, way)
            store.back()
            store.back()
            store.back()
            self.same(store.put("f", 10), 2 if way == "further" else 0, way)

    def test_refuses_in_order(self):
        for way in WAYS:
            store = full_store(way=way)
            for name in BAD_NAMES:
                for length in [5, 0, 10, 11] + BAD_LENGTHS[::4]:
                    self.refused(BadName, store.put, name, length)
            for name in ("zz", NAMES[0], "abcdefgh"):
                for length in BAD_LENGTHS + [11, 12, 10 ** 59]:
                    self.refused(BadLength, store.put, name, length)
            for name in NAMES[:200]:
                self.refused(Twice, store.put, name, 10)
                self.refused(Twice, store.put, name, 0)
            for length in (1, 5, 10):
                self.kept(Full, store, store.put, "zz", length)
            self.same(store.put("zz", 0) in range(200), True)
            self.kept(Twice, store, store.put, "zz", 1)
            self.kept(BadName, store, store.put, "", 1)
            self.kept(BadLength, store, store.put, "zz", 11)

    def test_names_of_one_to_eight_letters(self):
        store = Store(10, 2, "first")
        for name in ("a", "z", "az", "abcdefgh", "zzzzzzzz", "put", "out"):
            self.same(store.put(name, 0), 0)
        self.same(store.things(0), ["a", "z", "az", "abcdefgh", "zzzzzzzz", "put", "out"])

    def test_a_name_is_free_again_when_its_thing_is_out(self):
        store = Store(10, 2, "first")
        store.put("a", 3)
        self.kept(Twice, store, store.put, "a", 4)
        self.kept(Twice, store, store.put_row, "a", 1)
        store.out("a")
        self.same(store.put("a", 4), 0)
        store.back()
        self.same(store.put("a", 5), 0)
        self.kept(Twice, store, store.put, "a", 5)

    def test_two_hundred_pages(self):
        for way in WAYS:
            store = full_store(size=3, fan=3, way=way, pages=199)
            self.same(store.put("zy", 2), 199)
            self.kept(Full, store, store.put, "zz", 2)
            self.same(store.put("zz", 1), 199)
            store.out(NAMES[7])
            self.same(store.put("zx", 3), 7)
            self.kept(Full, store, store.put, "zw", 1)

    def test_any_two_pages_hold_together_more_than_size(self):
        for way in WAYS:
            for fan in (2, 5):
                for size in (1, 2, 10, 1000):
                    for seed in range(4):
                        store = Store(size, fan, way)
                        lengths = [1 + length for length in mixed_numbers(seed, 60, size - 1)]
                        for name, length in zip(NAMES, lengths):
                            store.put(name, length)
                        least = sorted(size - room for room in store.rooms())[:2]
                        self.assertTrue(len(least) < 2 or sum(least) > size, (way, size, least))


class PutRow(Stores):
    """Point 35."""

    def test_in_an_empty_store(self):
        for size in (1, 10, MOST):
            for many in (1, 2, 7, 199, 200):
                store = Store(size, 2, "first")
                self.same(store.put_row("a", many), 0)
                self.same(store.rooms(), [0] * many)
                self.same(store.where("a"), (0, many, many * size))
                self.same(store.sums(), (many, 1, many * size, 0))
                self.same([store.things(page) for page in range(many)], [["a"]] * many)

    def test_in_the_first_row_that_is_free(self):
        store = Store(10, 2, "first")
        for name, many in (("a", 2), ("b", 1), ("c", 3), ("d", 1), ("e", 2)):
            store.put_row(name, many)
        for name in "ace":
            store.out(name)
        self.same(store.empties(), [True, True, False, True, True, True, False, True, True])
        self.same(store.put_row("f", 3), 3)
        self.same(store.put_row("g", 2), 0)
        self.same(store.put_row("h", 1), 7)
        self.same(store.put_row("i", 1), 8)
        self.same(store.rooms(), [0] * 9)

    def test_at_the_end_made_longer(self):
        store = Store(10, 2, "first")
        for name, many in (("a", 2), ("b", 1), ("c", 2)):
            store.put_row(name, many)
        store.out("a")
        store.out("c")
        self.same(store.put_row("d", 4), 3)
        self.same(store.where("d"), (3, 4, 40))
        self.same(store.rooms(), [10, 10, 0, 0, 0, 0, 0])
        store.back()
        self.same(store.rooms(), [10, 10, 0, 10, 10])
        store.put("e", 10)
        self.same(store.put_row("f", 2), 3)

    def test_at_the_end_behind_a_page_with_a_thing(self):
        store = Store(10, 2, "first")
        store.put("a", 1)
        self.same(store.put_row("b", 2), 1)
        store.out("b")
        store.put("c", 10)
        self.same(store.where("c")[0], 1)
        store.put("d", 10)
        self.same(store.put_row("e", 2), 3)

    def test_a_page_with_a_thing_of_no_length_is_taken(self):
        store = Store(10, 2, "first")
        store.put("a", 0)
        self.same((store.rooms(), store.empties()), ([10], [False]))
        self.same(store.put_row("b", 1), 1)
        store.out("a")
        self.same(store.put_row("c", 1), 0)

    def test_refuses_in_order(self):
        store = full_store()
        for name in BAD_NAMES:
            for many in [1, 0, 200, 201] + BAD_LENGTHS[::4]:
                self.refused(BadName, store.put_row, name, many)
        for name in ("zz", NAMES[0]):
            for many in BAD_LENGTHS + [0, 201, 202, MOST, 10 ** 59]:
                self.refused(BadLength, store.put_row, name, many)
        for name in NAMES[:200]:
            for many in (1, 200):
                self.refused(Twice, store.put_row, name, many)
        for many in (1, 2, 200):
            self.kept(Full, store, store.put_row, "zz", many)
        self.kept(BadName, store, store.put_row, "", 1)
        self.kept(BadLength, store, store.put_row, "zz", 0)
        self.kept(Twice, store, store.put_row, NAMES[3], 1)

    def test_the_length_of_a_row_is_not_bound_by_the_size(self):
        store = Store(1, 2, "first")
        self.same(store.put_row("a", 200), 0)
        store = Store(300, 2, "first")
        self.kept(BadLength, store, store.put_row, "a", 201)

    def test_full_where_pages_lack(self):
        store = full_store(pages=198)
        self.kept(Full, store, store.put_row, "zz", 3)
        self.same(store.put_row("zz", 2), 198)
        store.out("zz")
        self.kept(Full, store, store.put_row, "zy", 3)
        store.out(NAMES[197])
        self.same(store.put_row("zy", 3), 197)
        self.kept(Full, store, store.put_row, "zx", 1)
        for name in NAMES[10:20]:
            store.out(name)
        self.kept(Full, store, store.put_row, "zx", 11)
        self.same(store.put_row("zx", 10), 10)


class Out(Stores):
    """Point 36."""

    def test_tells_the_first_page_and_pages_stay(self):
        store = Store(10, 2, "first")
        store.put("a", 4)
        store.put_row("b", 3)
        store.put("c", 5)
        self.same(store.out("b"), 1)
        self.same((store.rooms(), store.empties()), ([1, 10, 10, 10], [False, True, True, True]))
        self.same(store.out("a"), 0)
        self.same(store.out("c"), 0)
        self.same((store.rooms(), store.names(), store.sums()), ([10] * 4, [], (4, 0, 0, 40)))

    def test_the_order_of_the_others_stays(self):
        for name in "abcde":
            store = Store(10, 2, "first")
            for one in "abcde":
                store.put(one, 1)
            self.same(store.out(name), 0)
            self.same(store.things(0), [one for one in "abcde" if one != name])
            store.put(name, 1)
            self.same(store.things(0), [one for one in "abcde" if one != name] + [name])

    def test_no_thing(self):
        store = Store(10, 2, "first")
        store.put("a", 4)
        store.put("b", 4)
        store.out("b")
        for name in ("b", "c", "", "A", "aa", "abcdefghi", "a text", "1", " a"):
            self.kept(NoThing, store, store.out, name)
            self.kept(NoThing, store, store.where, name)

    def test_no_page(self):
        store = Store(10, 2, "first")
        for pages in range(4):
            for page in numbers_beyond(pages):
                self.kept(NoPage, store, store.things, page)
            store.put(NAMES[pages], 10)

    def test_names_are_sorted(self):
        store = Store(10, 2, "first")
        for name in ("b", "a", "ba", "z", "ab", "aa"):
            store.put(name, 1)
        self.same(store.names(), ["a", "aa", "ab", "b", "ba", "z"])
        self.same(store.things(0), ["b", "a", "ba", "z", "ab", "aa"])


class BackAndAgain(Stores):
    """Point 37."""

    def test_no_deed(self):
        store = Store(10, 2, "first")
        store.put("a", 4)
        self.kept(NoDeed, store, store.again)
        self.assertIsNone(store.back())
        self.kept(NoDeed, store, store.back)
        self.assertIsNone(store.again())
        self.kept(NoDeed, store, store.again)
        store.back()
        store.put("b", 4)
        self.kept(NoDeed, store, store.again)

    def test_a_refused_deed_forgets_nothing(self):
        store = Store(10, 2, "first")
        store.put("a", 4)
        store.put("b", 4)
        store.put_row("c", 199)
        store.put("d", 1)
        behind = self.everything(store)
        store.back()
        store.back()
        for kind, asked, args in (
            (BadName, store.put, ("", 1)), (BadLength, store.put, ("x", 11)), (Twice, store.put, ("a", 1)),
            (BadName, store.put_row, ("", 1)), (BadLength, store.put_row, ("x", 0)), (Twice, store.put_row, ("a", 1)),
            (Full, store.put_row, ("x", 200)), (NoThing, store.out, ("x",)), (NoThing, store.where, ("x",)),
            (NoPage, store.things, (9,)),
        ):
            self.kept(kind, store, asked, *args)
        store.again()
        store.again()
        self.same(self.everything(store), behind)
        self.kept(NoDeed, store, store.again)

    def test_an_out_is_taken_back_to_its_spot(self):
        for name in "abcde":
            store = Store(10, 2, "first")
            for one in "abcde":
                store.put(one, 1)
            before = self.everything(store)
            store.out(name)
            behind = self.everything(store)
            store.back()
            self.same(self.everything(store), before)
            store.again()
            self.same(self.everything(store), behind)

    def test_a_row_ahead_of_things_of_no_length(self):
        store = Store(10, 2, "first")
        store.put_row("a", 3)
        store.put("b", 0)
        store.put("c", 0)
        before = self.everything(store)
        self.same(store.out("a"), 0)
        self.same(store.things(0), ["b", "c"])
        store.back()
        self.same(self.everything(store), before)
        self.same(store.things(0), ["a", "b", "c"])

    def test_pages_that_were_added_are_gone(self):
        store = Store(10, 2, "best")
        store.put("a", 6)
        store.put_row("b", 5)
        store.put("c", 6)
        self.same(len(store.rooms()), 7)
        store.back()
        self.same(store.rooms(), [4, 0, 0, 0, 0, 0])
        store.back()
        self.same(store.rooms(), [4])
        store.again()
        self.same(store.rooms(), [4, 0, 0, 0, 0, 0])
        store.back()
        store.back()
        self.same((store.rooms(), store.tree(), store.sums()), ([], [], (0, 0, 0, 0)))

    def test_what_is_told_hangs_on_nothing(self):
        store = Store(10, 2, "first")
        store.put("a", 3)
        store.put_row("b", 2)
        told = [store.things(0), store.names(), store.rooms(), store.empties(), store.tree()]
        store.put("c", 3)
        store.out("a")
        store.back()
        store.out("b")
        self.same(told, [["a"], ["a", "b"], [7, 0, 0], [False, False, False], [[7, 0, 0], [7, 0], [7]]])


class Deeds(Stores):
    """Points 3, 5 and 34 to 37: many deeds without order, against a second telling of the store."""

    def deeds(self, seed, size, many):
        kinds = mixed_numbers(seed, many, 99)
        numbers = mixed_numbers(seed + 1000, many, 10 ** 6)
        return list(zip(kinds, numbers, mixed_numbers(seed + 2000, many, 11)))

    def step(self, store, plain, size, deed):
        kind, number, pick = deed
        name = NAMES[pick]
        if kind < 40:
            length = number % (min(size, 12) + 1) * max(size // 12, 1) if kind > 4 else 0
            return self.put(store, plain, store.put, plain.put, name, min(length, size))
        if kind < 50:
            return self.put(store, plain, store.put_row, plain.put_row, name, 1 + number % 4)
        if kind < 75:
            if name in plain.names():
                self.same(store.out(name), plain.out(name))
            else:
                self.refused(NoThing, store.out, name)
        elif kind < 90:
            if len(plain.states) > 1:
                self.same(store.back(), plain.back())
            else:
                self.refused(NoDeed, store.back)
        elif plain.dropped:
            self.same(store.again(), plain.again())
        else:
            self.refused(NoDeed, store.again)

    def put(self, store, plain, asked, asked_plainly, name, number):
        if name in plain.names():
            self.refused(Twice, asked, name, number)
        else:
            self.same(asked(name, number), asked_plainly(name, number))

    def test_many_deeds(self):
        for way in WAYS:
            for fan, size in ((2, 10), (3, 1), (8, 7), (5, MOST)):
                for seed in range(3):
                    store, plain = Store(size, fan, way), PlainStore(size, way)
                    for deed in self.deeds(seed + fan, size, 120):
                        self.step(store, plain, size, deed)
                        self.stands_like(store, fan, plain)
                        pages, things, taken, left = store.sums()
                        self.assertEqual(taken + left, pages * size)

    def test_all_taken_back_and_all_done_again(self):
        for way in WAYS:
            store, plain = Store(10, 2, way), PlainStore(10, way)
            for deed in self.deeds(7, 10, 100):
                if deed[0] < 75:
                    self.step(store, plain, 10, deed)
            told = [self.everything(store)]
            while len(plain.states) > 1:
                store.back()
                plain.back()
                self.stands_like(store, 2, plain)
                told.append(self.everything(store))
            self.refused(NoDeed, store.back)
            self.same(told[-1], ([], [], [], [], [], [], (0, 0, 0, 0)))
            for wanted in told[-2::-1]:
                store.again()
                self.same(self.everything(store), wanted)
            self.refused(NoDeed, store.again)

    def test_two_stores_by_turns(self):
        for way in WAYS:
            pairs = [(Store(10, 2, way), PlainStore(10, way)), (Store(10, 2, way), PlainStore(10, way))]
            for one, other in zip(self.deeds(1, 10, 80), self.deeds(2, 10, 80)):
                for (store, plain), deed in zip(pairs, (one, other)):
                    self.step(store, plain, 10, deed)
                for store, plain in pairs:
                    self.stands_like(store, 2, plain)

    def test_the_page_is_the_one_that_the_search_tells(self):
        asked = {"first": first, "best": best, "worst": worst}
        for way in WAYS:
            store, at = Store(10, 3, way), 0
            for name, length in zip(NAMES, mixed_numbers(4, 60, 10)):
                tree = store.tree()
                if way in asked:
                    wanted = asked[way](tree, 3, length)
                else:
                    wanted = {"further": round_from, "near": near}[way](tree, 3, length, at) if tree else None
                at = store.put(name, length)
                self.same(at, len(tree[0]) if tree and wanted is None else wanted or 0)
                if len(store.rooms()) > 2 and at % 2:
                    row = row_first(store.empties(), 3, 1)
                    told = store.put_row(name + "row", 1)
                    self.same(told, len(store.rooms()) - 1 if row is None else row)
                    store.out(name + "row")
                    at = told


if __name__ == "__main__":
    unittest.main()
