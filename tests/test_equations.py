import unittest

from selfpower import equations
from selfpower.equations import Equation
from selfpower.errors import InvalidTerm, InvalidText, TooDeep, TooMany, UnknownName
from selfpower.fields import Field
from selfpower.terms import Term
from tests import term_oracle
from tests.checks import Case, NO_TERMS
from tests.oracle import ALL_SIZES, NO_NUMBERS
from tests.term_oracle import RESERVED
from tests.test_term_texts import NO_TEXTS, TEXTS
from tests.test_terms import deep, long

X, Y = Term.of("x"), Term.of("y")


class Interface(Case):
    def test_parameters(self):
        self.has_methods(Equation, {
            "__init__": "(self, one, other)", "read": "(text)", "names": "(self)", "text": "(self)",
            "holds": "(self, field, given)",
        })
        for name in ("__eq__", "__str__", "__repr__"):
            self.assertIn(name, vars(Equation))
        self.assertIsInstance(vars(Equation)["read"], staticmethod)
        self.assertEqual(Equation.__module__, equations.__name__)

    def test_calls_by_name(self):
        self.assertEqual(Equation(other=1, one="x").text(), "x = 1")
        self.assertEqual(Equation.read(text="x = 1"), Equation("x", 1))
        self.assertIs(Equation("x", 1).holds(given={"x": 1}, field=Field(2)), True)


class Made(Case):
    def test_texts(self):
        for one, other, text in ((X, Y + 1, "x = (y + 1)"), ("x", 1, "x = 1"), (1, "x", "1 = x"), (0, 1, "0 = 1"),
                                 (-1, -2, "-1 = -2"), (X * X, X, "(x * x) = x"), ("x", "x", "x = x"),
                                 (Term.where(X, Y, 1, 0), 0, "where(x, y, 1, 0) = 0")):
            equation = Equation(one, other)
            self.assertEqual([equation.text(), str(equation), repr(equation)], [text, text, "Equation(" + text + ")"])
            self.assertEqual([equation.one, equation.other], [Term.of(one), Term.of(other)])
            self.assertEqual([type(equation.one), type(equation.other)], [Term, Term])

    def test_the_repr_of_the_document(self):
        self.assertEqual(repr(Equation("x", "y")), "Equation(x = y)")

    def test_names(self):
        self.assertEqual(Equation(Term.read("(z + (b * x))"), Term.read("(x - a)")).names(), ["a", "b", "x", "z"])
        self.assertEqual(Equation("x", "x").names(), ["x"])
        self.assertEqual(Equation(1, "x").names(), ["x"])
        self.assertEqual(Equation(1, 2).names(), [])
        equation = Equation("x", "y")
        equation.names().append("z")
        self.assertEqual(equation.names(), ["x", "y"])

    def test_terms_as_deep_and_long_as_may_be(self):
        self.assertEqual(Equation(deep(60), long(40000)).text(), deep(60).text() + " = " + long(40000).text())

    def test_equality(self):
        same = Equation(X + 1, Y)
        self.assertTrue(same == Equation.read("(x + 1) = y") and not same != Equation(X + 1, "y"))
        for other in (Equation("y", X + 1), Equation(1 + X, "y"), Equation(X + 1, "x"), Equation(X + 1, 1)):
            self.assertIs(same == other, False)
            self.assertIs(same != other, True)

    def test_an_equation_equals_nothing_else(self):
        self.equals_nothing_of_another_kind(Equation("x", "y"), ["x = y", X, ("x", "y"), (X, Y), [X, Y]])
        self.equals_nothing_of_another_kind(Equation(1, 1), [True, "1 = 1"])

    def test_refused(self):
        for value in NO_TERMS + RESERVED + [Equation("x", 1), Field(4), [X]]:
            self.refused(InvalidTerm, value, Equation, value, "x")
            self.refused(InvalidTerm, value, Equation, 1, value)
            for other in ("where", None, [X], True):
                self.refused(InvalidTerm, value, Equation, value, other)


class Holds(Case):
    def test_models(self):
        for size in ALL_SIZES:
            for seed in range(40):
                one, other = term_oracle.model_of(seed, 3), term_oracle.model_of(seed + 50, 3)
                equation = Equation(term_oracle.made(one), term_oracle.made(other))
                given = {name: (seed * 7 + place * 3) % size for place, name in enumerate(term_oracle.NAMES)}
                self.assertIs(equation.holds(Field(size), given),
                              term_oracle.value(one, size, given) == term_oracle.value(other, size, given))

    def test_by_hand(self):
        equation = Equation.read("(x * x) = (y + 1)")
        self.assertIs(equation.holds(Field(7), {"x": 3, "y": 1}), True)
        self.assertIs(equation.holds(Field(5), {"x": 3, "y": 1}), False)
        self.assertIs(equation.holds(Field(4), {"x": 2, "y": 2, "z": None}), True)
        self.assertIs(Equation(1, 8).holds(Field(7), {}), True)
        self.assertIs(Equation(1, 8).holds(Field(5), {}), False)

    def test_names_that_lack(self):
        equation = Equation(Term.read("(d + b)"), Term.read("(c + (a * b))"))
        # All names of the first term go ahead of those of the second one.
        for given, name in (({}, "b"), ({"a": 1, "b": 1}, "d"), ({"d": 1}, "b"), ({"b": 1, "d": 1}, "a"),
                            ({"a": 1, "b": 1, "d": 1}, "c"), ({"a": 1, "c": 1, "b": 1}, "d"), ({"x": 1}, "b")):
            self.refused(UnknownName, name, equation.holds, Field(5), given)

    def test_what_is_given_is_not_changed(self):
        given = {"y": 2, "x": 1}
        Equation("x", "y").holds(Field(5), given)
        self.assertEqual(list(given.items()), [("y", 2), ("x", 1)])


class Read(Case):
    def test_there_and_back(self):
        for one in TEXTS:
            for other in TEXTS:
                equation = Equation.read(one + " = " + other)
                self.assertEqual(equation.text(), one + " = " + other)
                self.assertEqual([equation.one, equation.other], [Term.read(one), Term.read(other)])

    def test_texts_of_no_equation(self):
        for text in ["", " ", "=", " = ", "  =  ", "x", "x =", "x = ", "= x", " = x", "x=y", "x= y", "x =y", "x == y", "x = y ",
                     " x = y", "x  = y", "x =  y", "x = y = z", "x = y\n", "x = y = ", " =  = ", "x = = y", "(x = y)",
                     "x = (y", "(x = y + 1)", "where(x = y, 1, 2, 3)", "x /= y", "x = if", "if x = y", "axiom x = y",
                     "where = x", "x = 00", "x = " + "9" * 32, "abcdefghi = x", "x = (x ** 1" + "0" * 31 + ")"]:
            self.refused(InvalidText, 0, Equation.read, text)
        for text in NO_TEXTS:
            self.refused(InvalidText, 0, Equation.read, "x = " + text)
            self.refused(InvalidText, 0, Equation.read, text + " = x")

    def test_a_character_more_less_or_twice(self):
        for text in ("x = (y + 1)", "-1 = where(x, 0, 1, (x ** 2))", "fact = 0"):
            for at in range(len(text) + 1):
                for changed in [text[:at] + text[at + 1:], text[:at] + text[at:at + 1] + text[at:]] + [
                        text[:at] + sign + text[at:] for sign in " =x0(-\n"]:
                    one, parting, other = changed.partition(" = ")
                    if parting and term_oracle.is_text(one) and term_oracle.is_text(other):
                        self.assertEqual(Equation.read(changed).text(), changed)
                    else:
                        self.refused(InvalidText, 0, Equation.read, changed)

    def test_other_values(self):
        for value in NO_NUMBERS + [0, 1, X, Equation("x", 1), ["x = y"], ("x", "y")]:
            self.refused(InvalidText, 0, Equation.read, value)

    def test_the_first_term_goes_ahead(self):
        much, more = "-" * 60, "-" + long(40000).text()
        for one, other, error, told in (
                (much, "?", TooDeep, 60), ("?", much, InvalidText, 0), ("x", much, TooDeep, 60), (more, "?", TooMany, 40000),
                (more, much, TooMany, 40000), (much, more, TooDeep, 60), ("?", more, InvalidText, 0),
                ("x", more, TooMany, 40000), (much, "x", TooDeep, 60), ("", much, InvalidText, 0), (much, "", TooDeep, 60)):
            self.refused(error, told, Equation.read, one + " = " + other)
        self.refused(InvalidText, 0, Equation.read, much)
        self.refused(InvalidText, 0, Equation.read, more)


if __name__ == "__main__":
    unittest.main()
