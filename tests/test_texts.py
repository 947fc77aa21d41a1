import re
import unittest

from asking import Asking
from model import FANS, MOST, ODD_THINGS, any_tree, many_rooms, mixed_numbers, room_lists, rows_of_pages, tree_by_pages
from ullage.errors import NoLine
from ullage.texts import paper_line, read_paper, read_rooms, read_tree, rooms_line, tree_line

NUMBER = "(?:0|[1-9][0-9]{0,19})"
SIGNS = "0159 -/:+.ax_,\t"
NO_TEXTS = [thing for thing in ODD_THINGS if not isinstance(thing, str)] + [0, 1, -1, 10 ** 59, ["-"], ("-",), ["1 2"]]
NO_LINES = [
    "", " ", "  ", "--", "- -", "-1", " -", "- ", "- 1", "1 -", "/", " / ", "1 /", "/ 1", "1 / ", " / 1", ":", "::",
    "0:0", "0:0:0:0", "0:0:", ":0:0", "0::0", "0:0:-", "-:0:0", "0 : 0 : 0", "01", "00", "+1", "1.0", "1e3", "0x1",
    "a", "1_0", "1,2", "1\t2", "1\n", "\n", "1  2", " 1", "1 ", "none", "None", "[1, 2]", "[]", "1/2", "1 /2", "1/ 2",
    "1" * 21, "9" * 60, "1 " + "0" * 20, "0:0:" + "1" * 21, "1" * 21 + ":0:0", "1" * 5000, "\u0661", "\u00b2", "1\u00a02",
]


def rooms_by_words(line):
    """The rooms that a line writes, None where it writes none."""
    if line == "-":
        return []
    if not re.fullmatch(f"{NUMBER}(?: {NUMBER})*", line):
        return None
    rooms = [int(word) for word in line.split()]
    return rooms if len(rooms) <= 200 and max(rooms) <= MOST else None


def tree_by_words(line, fan):
    if line == "-":
        return []
    if not re.fullmatch(f"{NUMBER}(?:(?: | / ){NUMBER})*", line):
        return None
    tree = [[int(word) for word in part.split()] for part in line.split("/")]
    pages = len(tree[0])
    if pages > 200 or max(max(level) for level in tree) > MOST:
        return None
    counts = [len(row) for row in rows_of_pages((pages, fan))]
    return tree if [len(level) for level in tree] == counts else None


def paper_by_words(line):
    if line == "-":
        return []
    if not re.fullmatch(f"{NUMBER}:{NUMBER}:{NUMBER}(?: {NUMBER}:{NUMBER}:{NUMBER})*", line):
        return None
    return [tuple(int(number) for number in word.split(":")) for word in line.split()]


def lines_about(line):
    """The line, and each one by one sign less, one more, or one otherwise."""
    lines = [line]
    for k in range(len(line) + 1):
        lines.append(line[:k] + line[k + 1:])
        for sign in SIGNS:
            lines += [line[:k] + sign + line[k:], line[:k] + sign + line[k + 1:]]
    return lines


class Texts(Asking):
    def read_so(self, wanted, asked, *args):
        if wanted is None:
            self.refused(NoLine, asked, *args)
        else:
            self.tells_so(wanted, asked, *args)


class Rooms(Texts):
    """Points 38 and 39."""

    def test_written_out(self):
        self.tells_so("-", rooms_line, [])
        self.tells_so("0", rooms_line, [0])
        self.tells_so("3 0 1000000000000000000 10", rooms_line, [3, 0, MOST, 10])

    def test_read_as_written(self):
        for rooms in many_rooms() + room_lists(200):
            line = self.told(rooms_line, rooms)
            self.assertEqual(line, repr(rooms)[1:-1].replace(",", "") or "-")
            self.tells_so(rooms, read_rooms, line)

    def test_lines_about_right_ones(self):
        for line in ("-", "0", "7", "10", "3 0 12", "1000000000000000000", "5 999999999999999999"):
            for other in lines_about(line):
                self.read_so(rooms_by_words(other), read_rooms, other)

    def test_bounds(self):
        self.tells_so([MOST], read_rooms, "1000000000000000000")
        self.refused(NoLine, read_rooms, "1000000000000000001")
        self.refused(NoLine, read_rooms, "10000000000000000000")
        self.refused(NoLine, read_rooms, "0 1000000000000000001 0")
        self.refused(NoLine, read_rooms, "1" * 20)
        for many in (199, 200):
            self.tells_so([1] * many, read_rooms, " ".join(["1"] * many))
        for many in (201, 202, 300):
            self.refused(NoLine, read_rooms, " ".join(["1"] * many))

    def test_refuses_everything_else(self):
        for line in NO_TEXTS + NO_LINES + ["1 / 1", "0:0:1"]:
            self.refused(NoLine, read_rooms, line)


class Trees(Texts):
    """Points 38 and 39."""

    def test_written_out(self):
        self.tells_so("-", tree_line, [])
        self.tells_so("0", tree_line, [[0]])
        self.tells_so("3 1 4 / 3 4 / 4", tree_line, [[3, 1, 4], [3, 4], [4]])
        self.tells_so([[3, 1, 4], [3, 4], [4]], read_tree, "3 1 4 / 3 4 / 4", 2)
        self.tells_so([[3, 1, 4], [0]], read_tree, "3 1 4 / 0", 3)

    def test_read_as_written_whole_or_not(self):
        for fan in FANS:
            for rooms in many_rooms() + room_lists(200)[-3:]:
                for tree in (tree_by_pages(rooms, fan), any_tree(3, len(rooms), fan, MOST)):
                    line = self.told(tree_line, tree)
                    parts = [" ".join(f"{number}" for number in level) for level in tree]
                    self.assertEqual(line, " / ".join(parts) or "-")
                    self.tells_so(tree, read_tree, line, fan)

    def test_lines_about_right_ones(self):
        for fan, line in ((2, "-"), (2, "0"), (2, "3 10 / 10"), (2, "3 1 4 / 3 4 / 4"), (3, "3 1 4 / 0"), (2, "5 / 5")):
            for other in lines_about(line):
                self.read_so(tree_by_words(other, fan), read_tree, other, fan)

    def test_levels_that_are_no_tree_by_the_fan(self):
        for fan in FANS:
            for pages in (1, 2, 3, 8, 9, 17):
                tree = tree_by_pages(mixed_numbers(pages, pages, 9), fan)
                for other in FANS:
                    line = tree_line(tree)
                    self.read_so(tree_by_words(line, other), read_tree, line, other)
                for k in range(len(tree)):
                    wrong = [tree[:k] + tree[k + 1:], tree[:k] + [tree[k] + [0]] + tree[k + 1:]]
                    wrong += [tree[:k] + [tree[k]] + tree[k:], tree[:k] + [tree[k][1:] or [0, 0]] + tree[k + 1:]]
                    for one in wrong:
                        line = " / ".join(" ".join(map(str, level)) for level in one) or "- -"
                        self.read_so(tree_by_words(line, fan), read_tree, line, fan)

    def test_bounds(self):
        for fan in FANS:
            for pages in (199, 200, 201, 202):
                tree = tree_by_pages([7] * pages, fan)
                line = " / ".join(" ".join(map(str, level)) for level in tree)
                self.read_so(tree if pages <= 200 else None, read_tree, line, fan)
            self.tells_so([[MOST, 0], [MOST]], read_tree, f"{MOST} 0 / {MOST}", fan)
            self.refused(NoLine, read_tree, f"{MOST + 1} 0 / {MOST}", fan)
            self.refused(NoLine, read_tree, f"{MOST} 0 / {MOST + 1}", fan)

    def test_refuses_everything_else(self):
        for line in NO_TEXTS + NO_LINES + ["0:0:1", "1 2", "1 / 1", "- / -", "1 2 / -", "- / 1", "1 2 // 2", "1 2 / / 2"]:
            for fan in FANS:
                self.refused(NoLine, read_tree, line, fan)


class Papers(Texts):
    """Points 38 and 39."""

    def test_written_out(self):
        self.tells_so("-", paper_line, [])
        self.tells_so("0:0:0", paper_line, [(0, 0, 0)])
        self.tells_so("1:0:3 0:2:1000000000000000000", paper_line, [(1, 0, 3), (0, 2, MOST)])
        self.tells_so([(1, 0, 3), (0, 2, 10 ** 19)], read_paper, "1:0:3 0:2:10000000000000000000")

    def test_numbers_of_many_figures(self):
        great = 10 ** 59
        line = f"{great}:{great + 1}:{great + 2}"
        self.tells_so(line, paper_line, [(great, great + 1, great + 2)])
        self.refused(NoLine, read_paper, line)
        for number in (10 ** 19, 10 ** 20 - 1):
            self.tells_so([(number, number, number)], read_paper, f"{number}:{number}:{number}")
        for words in (["0", "0", "1" + "0" * 20], ["0", "1" + "0" * 20, "0"], ["1" + "0" * 20, "0", "0"]):
            self.refused(NoLine, read_paper, ":".join(words))

    def test_read_as_written(self):
        for many in (0, 1, 2, 7, 199, 200):
            numbers = mixed_numbers(many, 3 * many, 10 ** 7)
            paper = [tuple(numbers[3 * k:3 * k + 3]) for k in range(many)]
            line = self.told(paper_line, paper)
            self.assertEqual(line, repr(paper)[2:-2].replace("), (", " ").replace(", ", ":") or "-")
            self.tells_so(paper, read_paper, line)

    def test_lines_about_right_ones(self):
        for line in ("-", "0:0:0", "1:0:3", "10:20:30 4:5:6", "99999999999999999999:0:1"):
            for other in lines_about(line):
                self.read_so(paper_by_words(other), read_paper, other)

    def test_refuses_everything_else(self):
        for line in NO_TEXTS + NO_LINES + ["1 2 3", "1", "1 / 1", "0:0:1 / 0:0:1", "0:0:1 -", "- 0:0:1"]:
            self.refused(NoLine, read_paper, line)


if __name__ == "__main__":
    unittest.main()
