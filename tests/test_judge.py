import itertools
import unittest

from asking import Asking
from model import (
    FANS, many_rooms, needs_for, numbers_beyond, page_by, pages_by_node, pages_enough, ruled_out_further,
    ruled_out_near, searches, searches_at, tree_by_pages,
)
from ullage.judge import honest, shows_best, shows_first, shows_further, shows_near
from ullage.papers import best_paper, first_paper, further_paper, near_paper

FAR = 10 ** 59


def pages_together(nodes, paper):
    """The pages beneath the paper's nodes, in its order; None where one is no node."""
    if any(entry[:2] not in nodes for entry in paper):
        return None
    return [page for entry in paper for page in nodes[entry[:2]]]


def rules_out(nodes, need, pages, paper):
    return pages_together(nodes, paper) == pages and all(entry[2] < need for entry in paper)


def first_by_words(shape, nodes, need, page, paper):
    return rules_out(nodes, need, ruled_out_further(shape[0], 0, page), paper)


def further_by_words(shape, nodes, need, at, page, paper):
    if page is not None and page < at:
        return False
    return rules_out(nodes, need, ruled_out_further(shape[0], at, page), paper)


def near_by_words(shape, nodes, need, at, page, paper):
    return rules_out(nodes, need, ruled_out_near(shape[0], at, page), paper)


def best_by_words(shape, nodes, need, page, paper):
    if pages_together(nodes, paper) != list(range(shape[0])):
        return False
    if any(entry[0] > 0 and entry[2] >= need for entry in paper):
        return False
    rooms = {entry[1]: entry[2] for entry in paper if entry[0] == 0 and entry[2] >= need}
    return page == page_by(sorted(rooms), lambda one: rooms[one])


def finer(tree, nodes, paper):
    """Papers like this one, but for one node that is put as its children."""
    for k, (level, place, number) in enumerate(paper):
        beneath = [one for one in nodes if one[0] == level - 1 and nodes[one][0] in nodes[(level, place)]]
        if beneath:
            yield paper[:k] + [one + (tree[one[0]][one[1]],) for one in beneath] + paper[k + 1:]


def tilings(nodes, begin, end):
    """All rows of nodes whose spans are together the pages from begin up to end."""
    if begin == end:
        yield []
    for node, pages in nodes.items():
        if pages[0] == begin and pages[-1] < end:
            for rest in tilings(nodes, pages[-1] + 1, end):
                yield [node] + rest


class Judging(Asking):
    """Points 18 and 21."""

    def judged(self, shape, nodes, need, page, paper, places):
        """Each judge against the words; how many said True."""
        many = 0
        for asked, wanted in ((shows_first, first_by_words), (shows_best, best_by_words)):
            answer = wanted(shape, nodes, need, page, paper)
            many += answer
            self.tells_so(answer, asked, shape, need, page, paper)
        for at in places:
            for asked, wanted in ((shows_further, further_by_words), (shows_near, near_by_words)):
                answer = wanted(shape, nodes, need, at, page, paper)
                many += answer
                self.tells_so(answer, asked, shape, need, at, page, paper)
        return many

    def test_all_short_papers_of_small_shapes(self):
        for shape in ((0, 2), (1, 2), (2, 2), (3, 2), (3, 3)):
            nodes = pages_by_node(shape)
            some = [node + (number,) for node in nodes for number in (1, 2)] + [(0, shape[0], 1), (0, -1, 1)]
            many = 0
            for length in range(4 if shape[0] < 3 else 3):
                for paper in itertools.product(some, repeat=length):
                    for page in [None] + list(range(shape[0])):
                        many += self.judged(shape, nodes, 2, page, list(paper), range(shape[0]))
            self.assertGreater(many, 0)

    def test_all_rows_of_nodes_over_some_pages(self):
        for shape in ((4, 2), (5, 3), (5, 2)):
            nodes = pages_by_node(shape)
            for begin in range(shape[0]):
                for end in range(begin, shape[0] + 1):
                    many = 0
                    for row in tilings(nodes, begin, end):
                        paper = [node + (3,) for node in row]
                        for page in [None] + list(range(shape[0])):
                            many += self.judged(shape, nodes, 4, page, paper, range(shape[0]))
                            self.judged(shape, nodes, 3, page, paper, range(0, shape[0], 2))
                    self.assertTrue(many > 0 or begin > 0 or end == 0, (shape, begin, end))

    def wrong_ones(self, nodes, need, paper):
        """Papers near to this one that rule out something else, or nothing."""
        for k, (level, place, number) in enumerate(paper):
            yield paper[:k] + paper[k + 1:]
            yield paper[:k] + [paper[k]] + paper[k:]
            for told in (need, need + 1, FAR):
                yield paper[:k] + [(level, place, told)] + paper[k + 1:]
            for node in [(level, -1), (-1, place), (-1, 0), (level, FAR), (FAR, place), (-FAR, 0), (0, -FAR)]:
                yield paper[:k] + [node + (number,)] + paper[k + 1:]
            yield paper[:k] + [(level, place + 1, number)] + paper[k + 1:]
            yield paper[:k] + [(level, place - len(nodes), number)] + paper[k + 1:]
            for other in range(k):
                changed = list(paper)
                changed[k], changed[other] = changed[other], changed[k]
                yield changed
        for more in ((0, 0), (0, -1), (-1, 0), (FAR, 0), (0, FAR), (0, len(nodes))):
            yield paper + [more + (0,)]
            yield [more + (0,)] + paper

    def trees(self):
        for fan in (2, 3, 8):
            for rooms in many_rooms((1, 2, 5, 9)):
                needs = needs_for(rooms)
                for need in {1, needs[len(needs) // 3], max(rooms), max(rooms) + 1}:
                    yield rooms, fan, need

    def test_first_right_finer_and_wrong(self):
        for rooms, fan, need in self.trees():
            shape, nodes, tree = (len(rooms), fan), pages_by_node((len(rooms), fan)), tree_by_pages(rooms, fan)
            page, paper = first_paper(tree, fan, need)
            for right in [paper] + list(finer(tree, nodes, paper)):
                self.tells_so(True, shows_first, shape, need, page, right)
                for other in [None] + list(range(len(rooms))):
                    wanted = first_by_words(shape, nodes, need, other, right)
                    self.assertEqual(wanted, other == page)
                    self.tells_so(wanted, shows_first, shape, need, other, right)
            for wrong in self.wrong_ones(nodes, need, paper):
                self.tells_so(False, shows_first, shape, need, page, wrong)

    def test_further_and_near_right_finer_and_wrong(self):
        for rooms, fan, need in self.trees():
            shape, nodes, tree = (len(rooms), fan), pages_by_node((len(rooms), fan)), tree_by_pages(rooms, fan)
            asked = (
                (further_paper, shows_further, further_by_words, "further"),
                (near_paper, shows_near, near_by_words, "near"),
            )
            for at in range(0, len(rooms), 2):
                for told, shows, by_words, name in asked:
                    page, paper = told(tree, fan, need, at)
                    self.assertEqual(page, searches_at(rooms, need, at)[name])
                    for right in [paper] + list(finer(tree, nodes, paper)):
                        self.tells_so(True, shows, shape, need, at, page, right)
                        for other in [None] + list(range(len(rooms))):
                            wanted = by_words(shape, nodes, need, at, other, right)
                            self.assertEqual(shows(shape, need, at, other, right), wanted)
                    for wrong in self.wrong_ones(nodes, need, paper):
                        self.assertIs(shows(shape, need, at, page, wrong), False, (shape, need, at, page, wrong))

    def test_best_right_finer_and_wrong(self):
        for rooms, fan, need in self.trees():
            shape, nodes, tree = (len(rooms), fan), pages_by_node((len(rooms), fan)), tree_by_pages(rooms, fan)
            page, paper = best_paper(tree, fan, need)
            for right in [paper] + list(finer(tree, nodes, paper)):
                self.tells_so(True, shows_best, shape, need, page, right)
                for other in [None] + list(range(len(rooms))):
                    self.tells_so(other == page, shows_best, shape, need, other, right)
            for wrong in self.wrong_ones(nodes, need, paper):
                wanted = best_by_words(shape, nodes, need, page, wrong)
                self.assertIs(shows_best(shape, need, page, wrong), wanted, (shape, need, page, wrong))

    def test_further_is_false_where_page_lies_ahead_of_at(self):
        for shape in ((2, 2), (5, 2), (9, 3)):
            for at in range(shape[0]):
                for page in range(at):
                    for paper in ([], [(0, at, 0)], [(0, page, 0)], [(0, one, 0) for one in range(page, at)]):
                        self.tells_so(False, shows_further, shape, 5, at, page, paper)

    def test_near_on_either_side_and_at_itself(self):
        shape = (5, 2)
        self.tells_so(True, shows_near, shape, 4, 2, 2, [])
        self.tells_so(False, shows_near, shape, 4, 2, 2, [(0, 2, 3)])
        self.tells_so(True, shows_near, shape, 4, 2, 1, [(0, 2, 3)])
        self.tells_so(False, shows_near, shape, 4, 2, 1, [(1, 1, 3)])
        self.tells_so(True, shows_near, shape, 4, 2, 3, [(0, 1, 3), (0, 2, 3)])
        self.tells_so(False, shows_near, shape, 4, 2, 3, [(0, 2, 3)])
        self.tells_so(True, shows_near, shape, 4, 1, 4, [(1, 0, 3), (1, 1, 3)])
        self.tells_so(True, shows_near, shape, 4, 1, 4, [(2, 0, 3)])
        self.tells_so(True, shows_near, shape, 4, 4, 1, [(0, 2, 0), (0, 3, 0), (2, 1, 0)])
        self.tells_so(True, shows_near, shape, 4, 0, 1, [(0, 0, 3)])
        self.tells_so(False, shows_near, shape, 4, 0, 0, [(0, 0, 3)])

    def test_best_with_told_rooms_changed(self):
        shape = (4, 2)
        paper = [(0, 0, 7), (0, 1, 5), (1, 1, 2)]
        self.tells_so(True, shows_best, shape, 4, 1, paper)
        self.tells_so(False, shows_best, shape, 4, 1, [(0, 0, 5), (0, 1, 5), (1, 1, 2)])
        self.tells_so(True, shows_best, shape, 4, 0, [(0, 0, 5), (0, 1, 5), (1, 1, 2)])
        self.tells_so(False, shows_best, shape, 4, 1, [(0, 0, 4), (0, 1, 5), (1, 1, 2)])
        self.tells_so(True, shows_best, shape, 4, 0, [(0, 0, 4), (0, 1, 5), (1, 1, 2)])
        self.tells_so(True, shows_best, shape, 4, 1, [(0, 0, 3), (0, 1, 5), (1, 1, 2)])
        self.tells_so(False, shows_best, shape, 4, 1, [(0, 0, 7), (0, 1, 3), (1, 1, 2)])
        self.tells_so(True, shows_best, shape, 4, None, [(0, 0, 3), (0, 1, 3), (1, 1, 2)])
        self.tells_so(False, shows_best, shape, 4, 1, [(0, 0, 7), (0, 1, 5), (1, 1, 4)])
        self.tells_so(False, shows_best, shape, 4, None, [(2, 0, 4)])
        self.tells_so(True, shows_best, shape, 4, None, [(2, 0, 3)])

    def test_of_a_shape_without_pages(self):
        for fan in FANS:
            for need in (0, 5):
                self.tells_so(True, shows_first, (0, fan), need, None, [])
                self.tells_so(True, shows_best, (0, fan), need, None, [])
                for entry in ((0, 0, 0), (-1, 0, 0), (0, -1, 0), (1, 0, -1)):
                    self.tells_so(False, shows_first, (0, fan), need, None, [entry])
                    self.tells_so(False, shows_best, (0, fan), need, None, [entry])


class Honest(Asking):
    """Point 22."""

    def test_each_told_paper(self):
        for fan in FANS:
            for rooms in many_rooms((0, 1, 2, 9)):
                tree = tree_by_pages(rooms, fan)
                for need in needs_for(rooms)[:6] + [max(rooms, default=0) + 1]:
                    papers = [first_paper(tree, fan, need), best_paper(tree, fan, need)]
                    for at in range(0, len(rooms), 3):
                        papers += [further_paper(tree, fan, need, at), near_paper(tree, fan, need, at)]
                    for page, paper in papers:
                        self.tells_so(True, honest, tree, paper)

    def test_of_trees_whole_or_not(self):
        for tree in ([[3, 1, 4], [3, 4], [4]], [[3, 1, 4], [0, 9], [2]], [[3, 1, 4], [7]], [[6]]):
            entries = [(k, j, number) for k, level in enumerate(tree) for j, number in enumerate(level)]
            self.tells_so(True, honest, tree, [])
            self.tells_so(True, honest, tree, entries)
            self.tells_so(True, honest, tree, entries[::-1] + entries)
            for k, (level, place, number) in enumerate(entries):
                for other in (number + 1, number - 1, -number - 1, FAR):
                    self.tells_so(False, honest, tree, entries[:k] + [(level, place, other)] + entries[k + 1:])
                for node in ((-1, 0), (0, -1), (len(tree), 0), (FAR, 0), (-FAR, 0)):
                    self.tells_so(False, honest, tree, entries[:k] + [node + (number,)] + entries[k + 1:])
                for beyond in numbers_beyond(len(tree[level])):
                    self.tells_so(False, honest, tree, entries[:k] + [(level, beyond, number)] + entries[k + 1:])

    def test_without_pages(self):
        self.tells_so(True, honest, [], [])
        for entry in ((0, 0, 0), (-1, 0, 0), (0, -1, 0), (1, 0, 0), (FAR, FAR, FAR)):
            self.tells_so(False, honest, [], [entry])

    def test_what_an_honest_paper_shows_is_what_the_search_tells(self):
        for number in range(3 ** 4):
            rooms = [number // 3 ** page % 3 for page in range(4)]
            tree = tree_by_pages(rooms, 2)
            nodes = pages_by_node((4, 2))
            for begin in range(5):
                for end in range(begin, 5):
                    for row in tilings(nodes, begin, end):
                        paper = [node + (tree[node[0]][node[1]],) for node in row]
                        self.assertIs(honest(tree, paper), True)
                        for need in (1, 2):
                            self.shown(rooms, need, paper)

    def shown(self, rooms, need, paper):
        shape = (len(rooms), 2)
        for page in pages_enough(rooms, need):
            if shows_first(shape, need, page, paper):
                self.assertEqual(page, searches(rooms, need)["first"])
            if shows_best(shape, need, page, paper):
                self.assertEqual(page, searches(rooms, need)["best"])
            for at in range(len(rooms)):
                if shows_further(shape, need, at, page, paper):
                    self.assertEqual(page, searches_at(rooms, need, at)["further"])
                if shows_near(shape, need, at, page, paper):
                    self.assertEqual(page, searches_at(rooms, need, at)["near"])


if __name__ == "__main__":
    unittest.main()
