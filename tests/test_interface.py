"""The names and arguments that the document's interface tells."""

import importlib
import inspect
import unittest

FUNCTIONS = {
    "shapes": "checked_shape(pages, fan) levels(shape) is_node(shape, thing) span(shape, node) parent(shape, node)"
              " children(shape, node) top(shape)",
    "covers": "cover(shape, begin, end) ancestors(shape, page) meeting(shape, one, other)",
    "trees": "checked_rooms(rooms) built(rooms, fan) checked_tree(tree, fan) fault(tree, fan) tells(tree, node)"
             " greatest(tree) total(tree)",
    "changes": "changed(tree, fan, page, room) counted(tree, need) nth(tree, need, k) parted(one, other)"
               " unlike(one, other)",
    "finds": "first(tree, fan, need) last(tree, fan, need) best(tree, fan, need) worst(tree, fan, need)"
             " further(tree, fan, need, at) round_from(tree, fan, need, at) near(tree, fan, need, at)",
    "walks": "walked(tree, fan, need, begin)",
    "papers": "first_paper(tree, fan, need) best_paper(tree, fan, need) further_paper(tree, fan, need, at)"
              " near_paper(tree, fan, need, at)",
    "judge": "shows_first(shape, need, page, paper) shows_further(shape, need, at, page, paper)"
             " shows_near(shape, need, at, page, paper) shows_best(shape, need, page, paper) honest(tree, paper)",
    "marks": "checked_scale(size, bits) mark_of(scale, room) least_of(scale, mark) mark_for(scale, need)"
             " missed(scale, need)",
    "roughly": "rough(scale, fan, rooms) rough_first(scale, fan, rooms, need) passed(scale, rooms, need)",
    "writes": "done(tree, writes) is_safe(tree, fan) ordered(tree, fan, page, room) mended(tree, fan)",
    "seeking": "seek(tree, fan, rooms, need)",
    "blocks": "block_of(empties) joined(one, other) blocks(empties, fan) stretches(empties)",
    "longest": "row_first(empties, fan, many) row_best(empties, fan, many) row_paper(empties, fan, many)"
               " row_shows(shape, many, page, paper) row_honest(empties, fan, paper)",
    "store": "Store(size, fan, way)",
    "texts": "rooms_line(rooms) tree_line(tree) paper_line(paper) read_rooms(line) read_tree(line, fan)"
             " read_paper(line)",
    "desk": "Desk()",
}
METHODS = {
    ("store", "Store"): "put(name, length) put_row(name, many) out(name) where(name) things(page) names() rooms()"
                        " empties() tree() sums() back() again()",
    ("desk", "Desk"): "say(line)",
}


def split_up(told):
    """Pairs of a name and the list of its arguments."""
    for part in told.split(") "):
        name, arguments = part.rstrip(")").split("(")
        yield name.strip(), [word for word in arguments.split(", ") if word]


class Interface(unittest.TestCase):
    def test_functions_and_classes(self):
        for module, told in FUNCTIONS.items():
            for name, arguments in split_up(told):
                found = getattr(importlib.import_module("ullage." + module), name)
                self.assertEqual(list(inspect.signature(found).parameters), arguments, (module, name))

    def test_methods(self):
        for (module, owner), told in METHODS.items():
            for name, arguments in split_up(told):
                found = getattr(getattr(importlib.import_module("ullage." + module), owner), name)
                self.assertEqual(list(inspect.signature(found).parameters), ["self"] + arguments, (owner, name))


if __name__ == "__main__":
    unittest.main()
