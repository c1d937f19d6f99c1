"""What several tests ask for."""

import inspect
import unittest

from selfpower.equations import Equation
from selfpower.theories import Theory
from tests.oracle import NO_NUMBERS

# What "any value" means in the document, without the strings that are names.
NO_TERMS = [value for value in NO_NUMBERS if value != "x"] + [
    "where", "X", "x1", "x y", " x", "x\n", "abcdefghi", "(x + 1)", ["x"], ("x",), (1, 2), [1]]

# A theory without sizes, and one with the sizes 3 and 7.
NONE = Theory(7, [Equation(0, 1)])
ODD = Theory(7, [Equation.read("where((x + x), 0, x, 0) = 0")])

# For 4 names, the first has 5858 points, which is the most that a theory can have, and the second 6347.
NEAR = Theory(25, [Equation.read("where(65, 0, x, 0) = 0")])
OVER = Theory(25, [Equation.read("where(26, 0, x, 0) = 0"), Equation.read("where(5, 0, (x ** 5), x) = x")])

NO_NAMES = NO_TERMS + [0, 1, -1, 7, 10 ** 30]


class Case(unittest.TestCase):
    """Tests of errors and of the interface."""

    def refused(self, kind, told, call, *arguments, **named):
        """The call raises just this kind of error, which tells just this, and what it was passed is as before."""
        before = repr((arguments, named))
        with self.assertRaises(kind) as caught:
            call(*arguments, **named)
        self.assertIs(type(caught.exception), kind)
        attributes = {key: value for key, value in vars(caught.exception).items() if key != "code"}
        self.assertEqual(repr(list(attributes.values())), repr([told]), (arguments, named))
        self.assertEqual(caught.exception.code, kind.__name__)
        self.assertEqual(repr((arguments, named)), before)

    def has_methods(self, made, expected):
        """The class itself has these methods, with these parameters."""
        for name, text in expected.items():
            self.assertIn(name, vars(made))
            self.assertEqual(str(inspect.signature(getattr(made, name))), text, name)

    def equals_nothing_of_another_kind(self, thing, others):
        for value in NO_NUMBERS + [0, 1, 2, [thing], (thing,), ValueError(), Case, object()] + others:
            self.assertIs(thing == value, False)
            self.assertIs(value == thing, False)
            self.assertIs(thing != value, True)
