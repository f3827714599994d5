"""Ways to ask for errors, of which the class, the attribute and the very object count."""

import inspect
import unittest

from oldaddress.histories import History
from oldaddress.lands import Land


def example():
    """The history of [3.8], [4.8] and [5.8]."""
    deeds = [("make", "a", 5), ("cut", "a", 2, "b"), ("wait", 3), ("pour", "a", "b"), ("drop", "b", 1, 2)]
    return History(Land(["a", "b", "c"], 9), deeds + [("make", "a", 1)])


def waiting():
    """The history of [6.11]."""
    deeds = [("make", "a", 2), ("wait", 3), ("cut", "a", 1, "b"), ("wait", 1)]
    return History(Land(["a", "b", "c"], 9), deeds)


class Asking(unittest.TestCase):
    def refused(self, error, thing, call, *parts, **named):
        """That a call raises just this error, made with the very thing (an index is compared)."""
        with self.assertRaises(error) as caught:
            call(*parts, **named)
        self.assertIs(type(caught.exception), error)
        if not inspect.signature(error).parameters:
            return
        (parameter,) = inspect.signature(error).parameters
        kept = getattr(caught.exception, parameter)
        self.assertIs(type(kept), type(thing))
        if isinstance(thing, int):
            self.assertEqual(kept, thing)
        else:
            self.assertIs(kept, thing)

    def same(self, told, expected):
        """Equal, and of the same kinds all the way down: lists are no tuples here."""
        self.assertEqual(told, expected)
        self.assertEqual(repr(told), repr(expected))
