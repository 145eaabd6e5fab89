"""What several test files share: a test case that looks at errors closely, and values of all kinds."""

import inspect
import unittest

from unopened.boxes import Plain
from unopened.forms import Form
from unopened.nets import Net
from unopened.series import Series
from unopened.sheets import Sheet

# A value of each kind that "any value" may be, names, small numbers and tuples left out.
OTHERS = [None, True, False, -1, 10 ** 2999, "", "Ab", "abcde", "a b", [], ["a"], [["a"], {"b": ()}], {}, {"a": 1},
          {(1, "b"): [2]}, Series([1]), Form(), Net.read("u source ; > u"), Sheet([], []), Plain({1: 2}),
          (((((Series([1]),),),),),)]


class Case(unittest.TestCase):
    def raises(self, error, call, *values):
        """Checks that the call raises this very error, with these values as its attributes, in order."""
        with self.assertRaises(error) as caught:
            call()
        found = caught.exception
        self.assertIs(type(found), error)
        names = list(inspect.signature(error).parameters)
        self.assertEqual(len(names), len(values))
        for name, value in zip(names, values):
            self.assertIs(type(getattr(found, name)), type(value))
            self.assertEqual(getattr(found, name), value)

    def same(self, found, wanted):
        """Checks equality, and that both are written alike, which tells True from 1 and a list from a tuple."""
        self.assertEqual(found, wanted)
        self.assertEqual(repr(found), repr(wanted))

    def signature(self, thing, wanted):
        self.assertEqual(str(inspect.signature(thing)), wanted)

    def defines(self, made, names):
        """Checks that a class itself has these names, not only a base class."""
        for name in names.split():
            self.assertIn(name, made.__dict__, f"{made.__name__}.{name}")
