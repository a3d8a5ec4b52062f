"""What the tests share: values that are no texts, and how an answer or a refusal is looked at."""

import copy
import unittest

from citeward.errors import (
    CiteError, NoHands, NoList, NoName, NoNumber, NoPlain, NoRow, NoStyle, NoText, NoWork, Ring)

REFUSALS = (NoHands, Ring, NoStyle, NoText, NoWork, NoList, NoName, NoNumber, NoPlain, NoRow)

NO_TEXTS = (None, 0, 1, -3, 10 ** 60, True, False, 1.5, [], ["a"], [["a"]], (), ("a",), ("signs", "a"),
            (("signs", "a"),), {}, {"a": "a"}, set(), b"", b"a", object(), str, len, ValueError("a"))


def kinds(value):
    """The kinds of a value and of all within it: equality alone takes True for 1."""
    if isinstance(value, (list, tuple)):
        return (type(value), [kinds(part) for part in value])
    if isinstance(value, dict):
        return (type(value), {key: kinds(part) for key, part in value.items()})
    return type(value)


def spoil(value):
    """Changes every list and dict in a value."""
    for part in list(value.values()) if isinstance(value, dict) else value:
        if isinstance(part, (list, tuple, dict)):
            spoil(part)
    if isinstance(value, list):
        value.append("spoiled")
        value.reverse()
    if isinstance(value, dict):
        value["spoiled"] = "spoiled"


class Case(unittest.TestCase):

    def told(self, answer, ask, *handed):
        """The answer is this one, again and again, is the asker's own, and leaves what was handed in as it was."""
        with self.subTest(ask=ask.__name__, handed=repr(handed)[:200]):
            before = copy.deepcopy(handed)
            first, second = ask(*handed), ask(*handed)
            self.assertEqual(first, answer)
            self.assertEqual(kinds(first), kinds(answer))
            self.assertEqual(handed, before)
            if isinstance(first, (list, tuple, dict)):
                spoil(first)
            self.assertEqual(second, answer)
            self.assertEqual(handed, before)
            self.assertEqual(ask(*handed), answer)

    def refused(self, refusal, ask, *handed, **values):
        """The refusal is of this class and of none of the others, has these values, and changes nothing."""
        with self.subTest(ask=ask.__name__, handed=repr(handed)[:200]):
            before = [repr(value) for value in handed]
            with self.assertRaises(CiteError) as caught:
                ask(*handed)
            error = caught.exception
            self.assertIs(type(error), refusal)
            self.assertIsInstance(error, ValueError)
            self.assertEqual([other for other in REFUSALS if isinstance(error, other)], [refusal])
            for name, value in values.items():
                self.assertEqual(getattr(error, name), value)
                self.assertEqual(kinds(getattr(error, name)), kinds(value))
            self.assertEqual([repr(value) for value in handed], before)
