"""Asking the program so that what every answer and every refusal must keep to is held as well."""

import copy
import unittest


def lists_within(thing):
    if isinstance(thing, dict):
        return lists_within(list(thing.values()))[1:]
    if not isinstance(thing, (list, tuple)):
        return []
    found = [thing] if isinstance(thing, list) else []
    for part in thing:
        found += lists_within(part)
    return found


class Asking(unittest.TestCase):
    def told(self, asked, *args):
        """The answer: told twice alike, in lists of its own, with nothing changed that was handed in."""
        before = repr(args)
        answer = asked(*args)
        self.assertEqual(repr(args), before, asked)
        marks = [id(one) for one in lists_within(answer)]
        self.assertEqual(len(marks), len(set(marks)), asked)
        self.assertFalse(set(marks) & {id(one) for one in lists_within(args)}, asked)
        kept = copy.deepcopy(answer)
        for one in lists_within(answer):
            one[:] = ["wrecked"]
        self.assertEqual(repr(args), before, asked)
        self.assertEqual(repr(asked(*args)), repr(kept), asked)
        return kept

    def same(self, answer, wanted, *where):
        # Written out, a truth is unlike a number and a tuple unlike a list.
        self.assertEqual(repr(answer), repr(wanted), where)

    def tells_so(self, wanted, asked, *args):
        self.same(self.told(asked, *args), wanted, asked.__name__, args)

    def refused(self, kind, asked, *args):
        """The refusal: of this very class, with nothing changed that was handed in."""
        before = repr(args)
        with self.assertRaises(kind, msg=(asked.__name__, args)) as caught:
            asked(*args)
        self.assertIs(type(caught.exception), kind)
        self.assertEqual(repr(args), before, asked)
        return caught.exception
