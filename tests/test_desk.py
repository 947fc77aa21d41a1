import re
import unittest

from asking import Asking
from model import MOST, mixed_numbers, searches, searches_at, tree_by_pages
from ullage.changes import counted
from ullage.desk import Desk
from ullage.errors import BadLength, BadScale, BadStore, Full, NoDeed, NoPage, NoThing, Twice
from ullage.finds import best, first, further, last, near, worst
from ullage.longest import row_first
from ullage.marks import checked_scale
from ullage.papers import first_paper
from ullage.roughly import rough_first
from ullage.store import Store

WAYS = ("first", "further", "near", "best", "worst")
NUMBER = "(0|[1-9][0-9]{0,19})"
NAME = "([a-z]{1,8})"
FORMS = [
    f"open {NUMBER} {NUMBER} (first|further|near|best|worst)", f"(put|row) {NAME} {NUMBER}", f"(out|where) {NAME}",
    "back", "again", "rooms", "tree", "names", "sums",
    f"(things|first|last|best|worst|counted|paper|free) {NUMBER}", f"(near|further|rough) {NUMBER} {NUMBER}",
]
RIGHT_LINES = [
    "open 10 2 first", "put a 5", "row b 2", "out a", "where a", "back", "again", "rooms", "tree", "names",
    "things 0", "sums", "first 3", "last 3", "best 3", "worst 3", "near 3 0", "further 3 0", "counted 3", "paper 3",
    "rough 2 3", "free 1",
]
ASKS = [
    "rooms", "tree", "names", "sums", "things 0", "things 1", "things 9", "where a", "where b", "first 0", "first 3",
    "last 4", "best 2", "worst 2", "near 3 0", "near 3 1", "further 3 1", "counted 0", "counted 5", "paper 4",
    "paper 11", "rough 2 5", "rough 16 5", "free 1", "free 2",
]


def is_line_by_words(line):
    return any(re.fullmatch(form, line) for form in FORMS)


def joined_by_blanks(numbers):
    return " ".join(f"{number}" for number in numbers)


def page_or_none(page):
    return "none" if page is None else f"{page}"


class PlainDesk:
    """What a desk answers, by the words of the document, from a store of its own."""

    def __init__(self):
        self.store = None

    def say(self, line):
        if not is_line_by_words(line):
            return ["no line"]
        words = [int(word) if word.isdigit() else word for word in line.split()]
        if words[0] == "open":
            try:
                self.store = Store(*words[1:])
            except BadStore:
                return ["no store"]
            return ["ok"]
        if self.store is None:
            return ["no store"]
        try:
            return self.answer(*words)
        except (BadLength, Twice, Full, NoThing, NoDeed, NoPage, BadScale) as refusal:
            word = {
                "BadLength": "length", "Twice": "twice", "Full": "full", "NoThing": "thing", "NoDeed": "deed",
                "NoPage": "page", "BadScale": "scale",
            }[type(refusal).__name__]
            return [f"no {word}"]

    def answer(self, word, *args):
        store = self.store
        tree, fan = store.tree(), store.fan
        if word in ("put", "row", "out"):
            return [f"{dict(put=store.put, row=store.put_row, out=store.out)[word](*args)}"]
        if word in ("back", "again"):
            self.assert_none(dict(back=store.back, again=store.again)[word]())
            return ["ok"]
        if word in ("where", "sums"):
            return [joined_by_blanks(dict(where=store.where, sums=store.sums)[word](*args))]
        if word in ("names", "things"):
            return dict(names=store.names, things=store.things)[word](*args)
        if word == "rooms":
            return [joined_by_blanks(store.rooms()) or "-"]
        if word == "tree":
            return [" / ".join(joined_by_blanks(level) for level in tree) or "-"]
        if word == "counted":
            return [f"{counted(tree, *args)}"]
        if word == "paper":
            page, paper = first_paper(tree, fan, *args)
            return [page_or_none(page), " ".join(":".join(map(str, entry)) for entry in paper) or "-"]
        if word == "rough":
            return [page_or_none(rough_first(checked_scale(store.size, args[0]), fan, store.rooms(), args[1]))]
        if word == "free":
            if args[0] == 0:
                raise BadLength("no pages")
            return [page_or_none(row_first(store.empties(), fan, *args))]
        asked = dict(first=first, last=last, best=best, worst=worst, near=near, further=further)[word]
        return [page_or_none(asked(tree, fan, *args))]

    def assert_none(self, answer):
        assert answer is None


class Desks(Asking):
    def answers(self, desk, *pairs):
        for line, wanted in pairs:
            self.same(desk.say(line), wanted, line)

    def seen(self, desk):
        """All that a desk answers to lines that only ask, each twice alike, in lists of the asker's own."""
        return [self.told(desk.say, line) for line in ASKS]


class Lines(Desks):
    """Points 40 and 41."""

    def test_each_line_written_out(self):
        self.answers(
            Desk(),
            ("open 10 2 first", ["ok"]), ("rooms", ["-"]), ("tree", ["-"]), ("names", []), ("sums", ["0 0 0 0"]),
            ("first 0", ["none"]), ("last 0", ["none"]), ("best 0", ["none"]), ("worst 0", ["none"]),
            ("counted 0", ["0"]), ("paper 0", ["none", "-"]), ("rough 1 0", ["none"]), ("free 1", ["none"]),
            ("things 0", ["no page"]), ("near 0 0", ["no page"]), ("further 0 0", ["no page"]),
            ("put b 5", ["0"]), ("put a 6", ["1"]), ("put c 7", ["2"]), ("put d 4", ["0"]), ("put e 0", ["0"]),
            ("rooms", ["1 4 3"]), ("tree", ["1 4 3 / 4 3 / 4"]), ("names", ["a", "b", "c", "d", "e"]),
            ("things 0", ["b", "d", "e"]), ("things 2", ["c"]), ("things 3", ["no page"]),
            ("sums", ["3 5 22 8"]), ("where a", ["1 1 6"]), ("where e", ["0 1 0"]),
            ("row r 2", ["3"]), ("where r", ["3 2 20"]), ("out r", ["3"]), ("free 2", ["3"]), ("free 3", ["none"]),
            ("first 3", ["1"]), ("last 3", ["4"]), ("best 3", ["2"]), ("worst 3", ["3"]), ("near 3 0", ["1"]),
            ("further 4 2", ["3"]), ("first 11", ["none"]), ("near 11 0", ["none"]), ("further 11 4", ["none"]),
            ("counted 4", ["3"]), ("paper 5", ["3", "1:0:4 0:2:3"]), ("paper 11", ["none", "3:0:10"]),
            ("rough 2 3", ["1"]), ("rough 2 4", ["1"]), ("rough 1 4", ["3"]), ("rough 2 11", ["none"]),
            ("back", ["ok"]), ("free 1", ["none"]), ("again", ["ok"]), ("free 1", ["3"]), ("again", ["no deed"]),
            ("out a", ["1"]), ("rooms", ["1 10 3 10 10"]), ("free 1", ["1"]), ("near 10 2", ["1"]),
        )

    def test_words_of_refusals(self):
        desk = Desk()
        self.answers(
            desk,
            ("open 10 2 first", ["ok"]), ("back", ["no deed"]), ("again", ["no deed"]), ("out a", ["no thing"]),
            ("where a", ["no thing"]), ("put a 11", ["no length"]), ("put a 99999999999999999999", ["no length"]),
            ("row a 0", ["no length"]), ("row a 201", ["no length"]), ("free 0", ["no length"]),
            ("rough 0 5", ["no scale"]), ("rough 17 5", ["no scale"]), ("rough 0 99999999999999999999", ["no scale"]),
            ("rooms", ["-"]), ("back", ["no deed"]),
            ("put a 10", ["0"]), ("put a 10", ["no twice"]), ("put a 11", ["no length"]), ("row a 1", ["no twice"]),
            ("row a 0", ["no length"]), ("row b 200", ["no full"]), ("row a 200", ["no twice"]),
            ("row b 199", ["1"]), ("put c 1", ["no full"]), ("put c 0", ["0"]), ("row d 1", ["no full"]),
            ("things 200", ["no page"]), ("near 1 200", ["no page"]), ("further 1 200", ["no page"]),
            ("things 199", ["b"]), ("near 1 199", ["none"]), ("free 200", ["none"]), ("free 99999999999999999999", ["none"]),
            ("rough 1 1", ["none"]), ("rough 16 0", ["0"]),
        )

    def test_before_there_is_a_store(self):
        for line in RIGHT_LINES[1:] + ["free 0", "rough 0 0", "put a 99999999999999999999", "row a 0", "near 0 9"]:
            desk = Desk()
            self.answers(desk, (line, ["no store"]), (line + " ", ["no line"]), ("open 10 2 near", ["ok"]))
        self.answers(Desk(), ("put A 5", ["no line"]), ("things", ["no line"]), ("", ["no line"]), ("ope", ["no line"]))

    def test_open_with_what_makes_none(self):
        bad = ["open 0 2 first", f"open {MOST + 1} 2 first", "open 10 1 near", "open 10 9 best", "open 0 0 worst"]
        bad += ["open 99999999999999999999 2 first", "open 10 99999999999999999999 further"]
        for line in bad:
            desk = Desk()
            self.answers(desk, (line, ["no store"]), ("rooms", ["no store"]), ("open 10 2 first", ["ok"]))
            self.answers(desk, ("put a 3", ["0"]), ("put b 3", ["0"]), ("back", ["ok"]))
            before = self.seen(desk)
            self.answers(desk, (line, ["no store"]))
            self.same(self.seen(desk), before)
            self.answers(desk, ("again", ["ok"]), ("names", ["a", "b"]), (line, ["no store"]), ("back", ["ok"]))

    def test_open_at_the_bounds(self):
        for size in (1, MOST):
            for fan in range(2, 9):
                for way in WAYS:
                    self.answers(Desk(), (f"open {size} {fan} {way}", ["ok"]), (f"put a {size}", ["0"]))

    def test_open_anew(self):
        desk = Desk()
        self.answers(
            desk,
            ("open 10 2 first", ["ok"]), ("put a 3", ["0"]), ("put b 3", ["0"]), ("back", ["ok"]),
            ("open 20 3 near", ["ok"]), ("rooms", ["-"]), ("names", []), ("sums", ["0 0 0 0"]), ("back", ["no deed"]),
            ("again", ["no deed"]), ("where a", ["no thing"]), ("put a 20", ["0"]), ("back", ["ok"]),
            ("back", ["no deed"]), ("rooms", ["-"]),
        )

    def test_lines_about_right_ones(self):
        signs = "0159 azA-+._/:,~"
        for line in RIGHT_LINES:
            for k in range(len(line) + 1):
                others = [line[:k] + line[k + 1:]]
                for sign in signs:
                    others += [line[:k] + sign + line[k:], line[:k] + sign + line[k + 1:]]
                for other in others:
                    if not is_line_by_words(other):
                        self.same(Desk().say(other), ["no line"], other)

    def test_words_too_few_too_many_and_other_blanks(self):
        desk = Desk()
        for opened in (False, True):
            if opened:
                self.answers(desk, ("open 10 2 first", ["ok"]), ("put a 3", ["0"]), ("put b 3", ["0"]), ("back", ["ok"]))
            for line in RIGHT_LINES:
                words = line.split()
                wrong = [" " + line, line + " ", line.upper(), line + " 1", line + " a", line + "  ", words[0] + "s"]
                wrong += ["  ".join(words)] if len(words) > 1 else []
                wrong += [" ".join(words[:k] + words[k + 1:]) for k in range(len(words))]
                for other in wrong:
                    if not is_line_by_words(other):
                        self.same(desk.say(other), ["no line"], other)
            for line in ("", " ", "-", "close", "open", "open 10 2", "open 10 2 last", "open 10 2 round_from", "none"):
                self.same(desk.say(line), ["no line"], line)
        self.answers(desk, ("again", ["ok"]), ("names", ["a", "b"]), ("back", ["ok"]), ("names", ["a"]))

    def test_words_that_are_not_as_told(self):
        desk = Desk()
        self.answers(desk, ("open 10 2 first", ["ok"]), ("put a 3", ["0"]))
        before = self.seen(desk)
        bad_numbers = ["01", "00", "+1", "-1", "1.0", "1e1", "x", "100000000000000000000", "0" * 21, "a", "-", "1_0"]
        bad_names = ["A", "aB", "a1", "1", "abcdefghi", "-", "a-b", "a_b", "none.", "~"]
        for number in bad_numbers:
            for line in ("put b {}", "row b {}", "things {}", "first {}", "last {}", "best {}", "worst {}", "near {} 0",
                         "near 0 {}", "further {} 0", "further 0 {}", "counted {}", "paper {}", "rough {} 1",
                         "rough 1 {}", "free {}", "open {} 2 first", "open 10 {} first"):
                self.same(desk.say(line.format(number)), ["no line"], line, number)
        for name in bad_names:
            for line in ("put {} 1", "row {} 1", "out {}", "where {}", "put {} 11", "row {} 0"):
                self.same(desk.say(line.format(name)), ["no line"], line, name)
        for way in ("last", "First", "round_from", "firs", "1", "a"):
            for line in ("open 10 2 {}", "open 0 2 {}", "open 10 9 {}"):
                self.same(desk.say(line.format(way)), ["no line"], line, way)
        self.same(self.seen(desk), before)

    def test_numbers_of_twenty_figures_are_taken(self):
        desk = Desk()
        great = "9" * 20
        self.answers(desk, ("open 10 2 first", ["ok"]), ("put a 3", ["0"]), (f"first {great}", ["none"]))
        self.answers(desk, (f"counted {great}", ["0"]), (f"paper {great}", ["none", "0:0:7"]), (f"things {great}", ["no page"]))
        self.answers(desk, (f"near {great} 0", ["none"]), (f"near 0 {great}", ["no page"]), (f"rough 1 {great}", ["none"]))
        self.answers(desk, (f"rough {great} 1", ["no scale"]), (f"free {great}", ["none"]), (f"row b {great}", ["no length"]))

    def test_what_is_refused_changes_nothing(self):
        desk = Desk()
        self.answers(desk, ("open 10 2 first", ["ok"]), ("put a 3", ["0"]), ("row b 199", ["1"]), ("put c 2", ["0"]))
        self.answers(desk, ("back", ["ok"]))
        before = self.seen(desk)
        for line in ("put a 1", "put d 11", "put d 9", "row d 1", "row a 1", "row d 0", "out d", "where d", "things 200",
                     "near 1 200", "further 1 200", "rough 0 1", "free 0", "open 0 2 first", "put", "x"):
            self.assertRegex(desk.say(line)[0], r"\Ano [a-z]+\Z", line)
            self.same(self.seen(desk), before, line)
        self.answers(desk, ("again", ["ok"]), ("things 0", ["a", "c"]), ("put d 9", ["no full"]), ("back", ["ok"]))
        self.same(self.seen(desk), before)


class ManyLines(Desks):
    """Points 3, 40 and 41: many lines without order, against a second telling of the desk."""

    def lines(self, seed, many):
        kinds = mixed_numbers(seed, many, 99)
        numbers = mixed_numbers(seed + 500, many, 13)
        for kind, number, pick in zip(kinds, numbers, mixed_numbers(seed + 900, many, 25)):
            name = "abcdefghij"[pick % 10]
            if kind < 40:
                yield f"put {name} {number}"
            elif kind < 48:
                yield f"row {name} {number % 4}"
            elif kind < 60:
                yield f"out {name}"
            elif kind < 70:
                yield "back"
            elif kind < 76:
                yield "again"
            elif kind == 76:
                yield f"open {number} {pick % 10} {WAYS[number % 5]}"
            elif kind < 90:
                yield f"{('first', 'last', 'best', 'worst', 'counted', 'paper', 'free', 'things')[pick % 8]} {number}"
            else:
                yield f"{('near', 'further', 'rough')[pick % 3]} {number} {number // 2}"

    def test_many_lines(self):
        for way in WAYS:
            for seed in range(4):
                desk, plain = Desk(), PlainDesk()
                for line in [f"open 10 {2 + seed} {way}"] + list(self.lines(seed, 200)):
                    self.same(desk.say(line), plain.say(line), line)
                    self.same([desk.say(one) for one in ASKS[:6]], [plain.say(one) for one in ASKS[:6]], line)
                self.same(self.seen(desk), [plain.say(line) for line in ASKS])

    def test_two_desks_by_turns(self):
        desks = [(Desk(), PlainDesk()), (Desk(), PlainDesk())]
        for desk, plain in desks:
            self.same(desk.say("open 10 2 near"), plain.say("open 10 2 near"))
        for lines in zip(self.lines(1, 150), self.lines(2, 150)):
            for (desk, plain), line in zip(desks, lines):
                self.same(desk.say(line), plain.say(line), line)
            for desk, plain in desks:
                self.same(self.seen(desk), [plain.say(line) for line in ASKS])

    def test_searches_against_a_plain_look(self):
        desk = Desk()
        desk.say("open 10 3 first")
        for name, length in zip("abcdefghijklm", (9, 8, 3, 7, 6, 5, 10, 2, 9, 9, 4, 8, 3)):
            desk.say(f"put {name} {length}")
        rooms = [int(word) for word in desk.say("rooms")[0].split()]
        self.same(desk.say("tree"), [" / ".join(joined_by_blanks(level) for level in tree_by_pages(rooms, 3))])
        for need in range(12):
            for word, page in searches(rooms, need).items():
                self.same(desk.say(f"{word} {need}"), [page_or_none(page)])
            for at in range(len(rooms)):
                for word in ("near", "further"):
                    wanted = searches_at(rooms, need, at)[word]
                    self.same(desk.say(f"{word} {need} {at}"), [page_or_none(wanted)])


if __name__ == "__main__":
    unittest.main()
