import random
import unittest

from selfpower.equations import Equation
from selfpower.errors import InvalidTerm, TooDeep, TooMany, UnknownName
from selfpower.fields import Field
from selfpower.terms import Term
from tests import oracle, term_oracle
from tests.checks import Case, NO_TERMS
from tests.oracle import ALL_SIZES, FIELDS
from tests.term_oracle import RESERVED
from tests.test_terms import deep, long

X, Y = Term.of("x"), Term.of("y")


class Filled(Case):
    def test_by_hand(self):
        term = Term.read("((2 * x) - where(x, y, 1, (y ** 3)))")
        for parts, text in (
                ({}, "((2 * x) - where(x, y, 1, (y ** 3)))"),
                ({"x": Y, "y": -1}, "((2 * y) - where(y, -1, 1, (-1 ** 3)))"),
                ({"x": "y"}, "((2 * y) - where(y, y, 1, (y ** 3)))"),
                ({"y": 0}, "((2 * x) - where(x, 0, 1, (0 ** 3)))"),
                ({"x": X + 1}, "((2 * (x + 1)) - where((x + 1), y, 1, (y ** 3)))"),
                ({"z": 5}, "((2 * x) - where(x, y, 1, (y ** 3)))")):
            self.assertEqual(term.filled(**parts).text(), text)
            self.assertIs(type(term.filled(**parts)), Term)
        self.assertEqual(X.filled(x=5), Term.of(5))
        self.assertEqual(X.filled(x=-5), Term.of(-5))
        self.assertEqual(Term.of(5).filled(x=5), Term.of(5))
        self.assertEqual(term.text(), "((2 * x) - where(x, y, 1, (y ** 3)))")

    def test_all_names_at_once(self):
        self.assertEqual((X + 2 * Y).filled(x=Y, y=X).text(), "(y + (2 * x))")
        self.assertEqual((X + 2 * Y).filled(x=X * Y, y="x").text(), "((x * y) + (2 * x))")
        self.assertEqual(Term.where("a", "b", "c", "d").filled(a="b", b="c", c="d", d="a").text(), "where(b, c, d, a)")

    def test_models(self):
        chance = random.Random(2)
        for seed in range(300):
            model = term_oracle.model_of(seed, 1 + seed % 6)
            fillings = {name: term_oracle.model_of(chance.random(), 3) for name in ("x", "z", "fact", "q")}
            terms = {name: term_oracle.made(part) for name, part in fillings.items()}
            filled = term_oracle.made(model).filled(**terms)
            self.assertEqual(filled.text(), term_oracle.text(term_oracle.filled(model, fillings)))
            self.assertEqual(filled.depth(), term_oracle.depth(term_oracle.filled(model, fillings)))

    def test_filling_goes_ahead_of_computing(self):
        for size in (3, 4, 9):
            for seed in range(60):
                term = term_oracle.made(term_oracle.model_of(seed, 4))
                part = term_oracle.made(term_oracle.model_of(seed + 1000, 3))
                given = {name: (seed + place) % size for place, name in enumerate(term_oracle.NAMES)}
                value = part.evaluate(Field(size), given)
                self.assertEqual(term.filled(x=part).evaluate(Field(size), given),
                                 term.evaluate(Field(size), {**given, "x": value}))

    def test_other_parameters_are_not_looked_at(self):
        for value in NO_TERMS + RESERVED + [deep(60), long(40000)]:
            self.assertEqual((X + 1).filled(y=value, where=value, Z=value).text(), "(x + 1)")
            self.assertEqual((X + 1).filled(**{"no name": value, "x": 2, "": value, "term": value}).text(), "(2 + 1)")
        self.assertEqual(Term.of("parts").filled(parts=1, tree=2, name=3).text(), "1")

    def test_other_values(self):
        term = Term.where("b", "a", "c", 1)
        for value in NO_TERMS + RESERVED + [Equation("x", 1), Field(4)]:
            self.refused(InvalidTerm, value, term.filled, a=value)
            self.refused(InvalidTerm, value, term.filled, c=value, b=1, a="x")
            # The order of the names counts, not that of the parameters or of the places in the term.
            self.refused(InvalidTerm, value, term.filled, c=None, b="where", a=value)
            self.refused(InvalidTerm, value, term.filled, c=[1], b=value, z=False)

    def test_depths(self):
        self.assertEqual(deep(30).filled(x=deep(31)), deep(60))
        self.refused(TooDeep, 60, deep(30).filled, x=deep(32))
        self.refused(TooDeep, 60, deep(60).filled, x=-1)
        self.refused(TooDeep, 60, (deep(60)).filled, x=Y + 1)
        self.assertEqual(deep(60).filled(x=7).text(), "-" * 59 + "7")
        self.assertEqual(deep(59).filled(x=-7).text(), "-" * 59 + "7")

    def test_parts(self):
        self.assertEqual((X * X - 1).filled(x=long(19998)).text().count("1"), 2 * long(19998).text().count("1") + 1)
        self.refused(TooMany, 40000, (X * X - 1).filled, x=long(19999))
        self.assertEqual((-X).filled(x=long(39999)), -long(39999))
        self.refused(TooMany, 40000, (-X).filled, x=long(40000))
        wide = X
        for _ in range(13):
            wide = wide + wide
        self.refused(TooMany, 40000, wide.filled, x=long(40000))
        self.assertEqual(wide.filled(x=-1).names(), [])

    def test_too_deep_goes_ahead(self):
        # The part that is too long stands ahead of the one that is too deep.
        term = X * X + -Y
        self.refused(TooMany, 40000, term.filled, x=long(30000), y=deep(58))
        self.refused(TooDeep, 60, term.filled, x=long(30000), y=deep(59))
        self.refused(TooDeep, 60, (-Y + X * X).filled, x=long(30000), y=deep(59))
        self.refused(InvalidTerm, None, (term * Term.of("z")).filled, x=long(40000), y=deep(60), z=None)


class Values(Case):
    def test_by_hand(self):
        seven, four = Field(7), Field(4)
        for text, field, given, value in (
                ("(x + 3)", seven, {"x": 5}, 1), ("(x - 6)", seven, {"x": 5}, 6), ("-x", seven, {"x": 5}, 2),
                ("(x * y)", seven, {"x": 5, "y": 4}, 6), ("(x ** 3)", seven, {"x": 5}, 6), ("100", seven, {}, 2),
                ("(x * y)", four, {"x": 2, "y": 3}, 1), ("(x + y)", four, {"x": 2, "y": 3}, 1), ("-x", four, {"x": 2}, 2),
                ("(x ** 2)", four, {"x": 2}, 3), ("3", four, {}, 1), ("2", four, {}, 0), ("-1", four, {}, 1),
                ("where(x, y, 1, 0)", four, {"x": 2, "y": 2}, 1), ("where(x, y, 1, 0)", four, {"x": 2, "y": 3}, 0),
                ("where(x, 1, y, x)", seven, {"x": 1, "y": 4}, 4), ("where(x, 1, y, x)", seven, {"x": 3, "y": 4}, 3),
                ("where(8, 1, 2, 3)", seven, {}, 2), ("where(8, 1, 2, 3)", Field(5), {}, 3)):
            self.assertEqual(Term.read(text).evaluate(field, given), value, text)
            self.assertIs(type(Term.read(text).evaluate(field, given)), int)

    def test_models_in_all_fields(self):
        chance = random.Random(3)
        for size in ALL_SIZES:
            field = Field(size)
            for seed in range(60):
                model = term_oracle.model_of(seed + 100 * size, 1 + seed % 6)
                given = {name: chance.randrange(size) for name in term_oracle.NAMES + ["other"]}
                self.assertEqual(term_oracle.made(model).evaluate(field, given), term_oracle.value(model, size, given))

    def test_each_sign_for_all_elements(self):
        for size in (2, 3, 4, 5, 8, 9, 16, 25, 27):
            field = Field(size)
            for one in range(size):
                for other in range(size):
                    given = {"x": one, "y": other}
                    self.assertEqual((X + Y).evaluate(field, given), oracle.plus(size, one, other))
                    self.assertEqual((X - Y).evaluate(field, given), oracle.minus(size, one, other))
                    self.assertEqual((X * Y).evaluate(field, given), oracle.times(size, one, other))
                    self.assertEqual((-Y).evaluate(field, given), oracle.minus(size, 0, other))
                    self.assertEqual(Term.where(X, Y, 1, 0).evaluate(field, given), int(one == other))

    def test_the_exponent_0(self):
        for size in ALL_SIZES:
            for item in {0, 1, size // 2, size - 1}:
                self.assertEqual((X ** 0).evaluate(Field(size), {"x": item}), 1)

    def test_great_exponents(self):
        for size in ALL_SIZES:
            field = Field(size)
            for item in {0, 1, size // 2, size - 1}:
                for exponent in (1, 2, size - 1, size, 10 ** 30 - 1, 10 ** 30):
                    self.assertEqual((X ** exponent).evaluate(field, {"x": item}),
                                     term_oracle.power(size, item, exponent))
        self.assertEqual(((X ** 10 ** 30) ** 10 ** 30).evaluate(Field(7), {"x": 3}), pow(3, 10 ** 60, 7))

    def test_numbers_stand_for_elements(self):
        for size in ALL_SIZES:
            for number in (0, 1, size, 64, 10 ** 31 - 1, -1, -10 ** 30):
                self.assertEqual(Term.of(number).evaluate(Field(size), {}), number % FIELDS[size][0])

    def test_deep_and_long_terms(self):
        self.assertEqual(deep(60).evaluate(Field(7), {"x": 3}), 4)
        self.assertEqual(deep(59).evaluate(Field(7), {"x": 3}), 3)
        term = X
        for _ in range(14):
            term = term + term
        self.assertEqual(term.evaluate(Field(61), {"x": 5}), 5 * 2 ** 14 % 61)

    def test_names_that_lack(self):
        term = Term.where("c", "a", "d", "b")
        field = Field(5)
        for given, name in (({}, "a"), ({"a": 1}, "b"), ({"b": 1, "c": 2, "d": 3}, "a"), ({"a": 1, "b": 1}, "c"),
                            ({"a": 1, "b": 1, "c": 4}, "d"), ({"x": 1, "z": 2}, "a"), ({"d": 0, "a": 0, "": 0}, "b")):
            self.refused(UnknownName, name, term.evaluate, field, given)
        # It does not matter whether the value of the name is needed.
        self.refused(UnknownName, "y", Term.where(1, 1, X, Y).evaluate, field, {"x": 1})
        self.refused(UnknownName, "y", (Y ** 0).evaluate, field, {"x": 1})
        self.refused(UnknownName, "y", (0 * Y).evaluate, field, {})

    def test_other_names_do_not_matter(self):
        self.assertEqual((X + 1).evaluate(Field(5), {"x": 4, "y": 99, "no name": None}), 0)

    def test_what_is_given_is_not_changed(self):
        given = {"y": 2, "x": 1}
        (X + Y).evaluate(Field(5), given)
        self.assertEqual(list(given.items()), [("y", 2), ("x", 1)])


if __name__ == "__main__":
    unittest.main()
