import random
import unittest

from selfpower.equations import Equation
from selfpower.errors import InvalidText, TooDeep, TooMany
from selfpower.fields import Field
from selfpower.terms import Term
from tests import term_oracle
from tests.checks import Case
from tests.oracle import NO_NUMBERS
from tests.term_oracle import NUMBERS, RESERVED
from tests.test_terms import deep, long

X = Term.of("x")

TEXTS = ["x", "abcdefgh", "0", "7", "9" * 31, "-x", "--x", "-0", "-" + "9" * 31, "(x + y)", "(x - y)", "(x * y)",
         "(x ** 5)", "(x ** 0)", "(x ** 1" + "0" * 30 + ")", "where(x, y, z, 1)", "(-x + -1)", "-(x + y)",
         "(x - -1)", "((x ** 2) ** 3)", "where(where(1, 2, 3, 4), -x, (x + y), (where(a, b, c, d) ** 2))",
         "((2 * x) - where(x, y, 1, (y ** 3)))", "(wheres + ifs)", "-where(-x, -y, -z, -1)"]

NO_TEXTS = [
    # No terms at all, and signs and blanks that are missing, wrong or too many.
    "", " ", "\n", "-", "(", ")", "()", "+", "x y", " x", "x ", "x\n", "\nx", "(x)", "((x + y))", "x + y", "(x+y)", "(x +y)",
    "(x + y", "x + y)", "(x + y))", "( x + y)", "(x + y )", "(x  + y)", "(x + y + z)", "(x / y)", "(x // y)", "(x & y)",
    "- x", "+x", "(+x + y)", "(x + +y)", "(x -y)", "x-", "-(x)", "--", "(- + x)", "X", "x1", "1x", "x_y", "x.y",
    # Names and numbers.
    "abcdefghi", "-abcdefghi", "(abcdefghi + 1)", "00", "01", "-01", "007", "(01 + x)", "1" + "0" * 31, "9" * 32,
    "-" + "9" * 32, "(x + " + "9" * 32 + ")", "1.0", "1e3", "1_000", "0x1", "9" * 5000,
    # Powers.
    "(x ** y)", "(x ** -1)", "(x ** 02)", "(x ** 00)", "(x ** )", "(x ** 5", "(x **5)", "(x** 5)", "(x * * 5)", "x ** 5",
    "(x ** 1" + "0" * 29 + "1)", "(x ** 1" + "0" * 31 + ")", "(x ** " + "9" * 31 + ")", "(x ** (2))", "(x ** 2 ** 3)",
    "(x ** 1" + "0" * 30 + "1)", "(x ** 1" + "0" * 29 + "1", "(1 ** x)", "(x ** " + "9" * 5000 + ")",
    # Choices.
    "where", "where()", "where(x)", "where(x, y)", "where(x, y, z)", "where(x, y, z, 1", "where(x, y, z, 1, 2)",
    "where(x,y,z,1)", "where (x, y, z, 1)", "where(x, y, z,1)", "where(x, y, z, )", "where(x, y, z 1)", "where(x; y; z; 1)",
    "Where(x, y, z, 1)", "here(x, y, z, 1)", "wherex, y, z, 1)", "(where + 1)", "-where", "wherewhere(1, 2, 3, 4)",
    "where( x, y, z, 1)", "where(x, y, z, 1 )", "where[x, y, z, 1]", "x(y, z, 1, 2)", "where(where, 1, 2, 3)",
    # Equations and lines.
    "x = y", "x = 1", "power 7", "x ; y", "(x = y)", "x, y",
]


class ThereAndBack(Case):
    def test_texts(self):
        for text in TEXTS:
            self.assertEqual(Term.read(text).text(), text)
            self.assertIs(type(Term.read(text)), Term)

    def test_models(self):
        for seed in range(1500):
            model = term_oracle.model_of(seed, 1 + seed % 8)
            text = term_oracle.text(model)
            self.assertEqual(Term.read(text), term_oracle.made(model))
            self.assertEqual(Term.read(text).text(), text)

    def test_what_a_text_stands_for(self):
        for text, term in (("-1", Term.of(-1)), ("-1", -Term.of(1)), ("(x + -1)", X + -1), ("(x - 1)", X - 1),
                           ("(x ** 3)", X ** 3), ("where(x, 0, 1, 2)", Term.where(X, 0, 1, 2)), ("-(x ** 2)", -X ** 2)):
            self.assertEqual(Term.read(text), term)
        for text in ("(1 - 2)", "(x - (y - 2))", "((x - y) - 2)"):
            given = {"x": 3, "y": 5}
            self.assertEqual(Term.read(text).evaluate(Field(61), given), eval(text, {}, given) % 61)

    def test_numbers(self):
        for number in NUMBERS + [10 ** many for many in range(31)] + [10 ** many - 1 for many in range(1, 32)]:
            self.assertEqual(Term.read(str(number)), Term.of(number))
            self.assertEqual(Term.read("-" + str(number)), -Term.of(number))
        for exponent in [10 ** many for many in range(31)] + [10 ** 30 - 1, 0, 9]:
            self.assertEqual(Term.read("(x ** " + str(exponent) + ")"), X ** exponent)


class NoTexts(Case):
    def test_texts_of_no_term(self):
        for text in NO_TEXTS:
            self.assertIs(term_oracle.is_text(text), False, text)
            self.refused(InvalidText, 0, Term.read, text)

    def test_other_values(self):
        for value in [value for value in NO_NUMBERS if value not in ("x", "2", "4")] + [
                0, 1, 7, -1, X, Equation("x", 1), ["x"], ("x",), "a longer string"]:
            self.refused(InvalidText, 0, Term.read, value)

    def test_reserved_words(self):
        for word in RESERVED:
            for text in (word, "-" + word, "(" + word + " + 1)", "(1 + " + word + ")", "(" + word + " ** 2)",
                         "where(1, 2, 3, " + word + ")", "where(" + word + ", 2, 3, 4)"):
                self.refused(InvalidText, 0, Term.read, text)

    def test_a_character_more_less_or_twice(self):
        for text in TEXTS:
            for at in range(len(text) + 1):
                self._looked_at(text[:at] + text[at + 1:])
                self._looked_at(text[:at] + text[at:at + 1] + text[at:])
                for sign in "x0 -+*(),=T\n":
                    self._looked_at(text[:at] + sign + text[at:])
                    self._looked_at(text[:at] + sign + text[at + 1:])

    def test_texts_that_are_cut_and_mixed(self):
        chance = random.Random(1)
        for seed in range(1500):
            text = term_oracle.text(term_oracle.model_of(seed, 5))
            one, other = sorted([chance.randrange(len(text) + 1), chance.randrange(len(text) + 1)])
            for changed in (text[:one], text[one:], text[one:other], text[:one] + text[other:], text[:other] + text[one:]):
                self._looked_at(changed)

    def _looked_at(self, text):
        if term_oracle.is_text(text):
            self.assertEqual(Term.read(text).text(), text)
        else:
            self.refused(InvalidText, 0, Term.read, text)


class DeepTexts(Case):
    # What stands ahead of a term that is nested one deeper, and what behind it.
    AROUND = [("-", ""), ("(", " + 1)"), ("(1 + ", ")"), ("(x - ", ")"), ("(", " ** 2)"), ("where(", ", 1, 1, 1)"),
              ("where(1, 2, ", ", x)"), ("where(1, 2, 3, ", ")"), ("(10 * ", ")")]

    def test_60_deep(self):
        for ahead, behind in self.AROUND:
            text = ahead * 59 + "x" + behind * 59
            self.assertEqual(Term.read(text).text(), text)
            self.assertEqual(Term.read(text).depth(), 60)

    def test_61_deep(self):
        for ahead, behind in self.AROUND:
            for inner in ("x", "1", "-x", "(x + y)", "where(1, 2, 3, 4)"):
                self.refused(TooDeep, 60, Term.read, ahead * 60 + inner + behind * 60)
        for inner in ("-x", "(x + y)", "where(1, 2, 3, 4)", "(x ** 2)", "-1"):
            self.refused(TooDeep, 60, Term.read, "-" * 59 + inner)

    def test_the_second_part_may_be_the_deep_one(self):
        for ahead, behind in self.AROUND:
            self.refused(TooDeep, 60, Term.read, "(" + "-" * 59 + "x + " + ahead * 60 + "x" + behind * 60 + ")")
            self.refused(TooDeep, 60, Term.read, "(x + " + ahead * 59 + "x" + behind * 59 + ")")
            text = "(x + " + ahead * 58 + "x" + behind * 58 + ")"
            self.assertEqual(Term.read(text).text(), text)

    def test_whatever_follows(self):
        for ahead, _ in self.AROUND:
            for rest in ("", "x", "?", ")", " ", "where", "007", "9" * 40, "\n", "(", "-", "abcdefghi", " + x)", "= 1",
                         "x" + ")" * 60 + ")", "x" * 500, ")" * 60):
                self.refused(TooDeep, 60, Term.read, ahead * 60 + rest)
            self.refused(TooDeep, 60, Term.read, ahead * 3000)

    def test_a_place_that_is_less_deep_is_only_wrong(self):
        for ahead, behind in self.AROUND:
            for inner in ("", "?", ")", " ", "where", "007", "9" * 32, "abcdefghi", "if"):
                self.refused(InvalidText, 0, Term.read, ahead * 59 + inner + behind * 59)
            self.refused(InvalidText, 0, Term.read, ahead * 59 + "x" + behind * 59 + "?")
            if behind:
                self.refused(InvalidText, 0, Term.read, ahead * 59 + "x" + behind * 58)

    def test_what_is_wrong_ahead_of_the_place_goes_ahead(self):
        for wrong in ("(x+ ", "((", "(x + ?", "(01 + ", "(x ** y", "(if + ", "(abcdefghi + ", "where(x,", "(x ** 01) + ",
                      "(" + "9" * 32 + " + ", "((x ** " + "9" * 31 + ") + ", "wher(", " ", "( ", "- "):
            if wrong != "((":
                self.refused(InvalidText, 0, Term.read, wrong + "-" * 61 + "x")
                self.refused(InvalidText, 0, Term.read, wrong + "(" * 61)
        self.refused(InvalidText, 0, Term.read, "(x ** " + "-" * 61)
        self.refused(InvalidText, 0, Term.read, "-" * 59 + "x" + "-" * 61)
        self.refused(InvalidText, 0, Term.read, "(" * 59 + "x" + "(" * 61)
        self.refused(InvalidText, 0, Term.read, "(x + y) + " + "-" * 61)

    def test_terms_as_deep_as_may_be(self):
        self.assertEqual(Term.read(deep(60).text()), deep(60))
        self.refused(TooDeep, 60, Term.read, "-" + deep(60).text())


class LongTexts(Case):
    def test_40000_parts(self):
        for term in (long(40000), long(39999), Term.where(long(39996), 1, 1, 1)):
            self.assertEqual(Term.read(term.text()), term)

    def test_40001_parts(self):
        text = long(40000).text()
        self.refused(TooMany, 40000, Term.read, "-" + text)
        self.refused(TooMany, 40000, Term.read, "(" + text + " ** 2)")
        self.refused(TooMany, 40000, Term.read, "(x + " + text + ")")
        self.refused(TooMany, 40000, Term.read, "where(" + text + ", " + text + ", 1, " + text + ")")

    def test_other_errors_go_ahead(self):
        text = long(40000).text()
        self.refused(InvalidText, 0, Term.read, "-" + text + "?")
        self.refused(InvalidText, 0, Term.read, "(" + text + " + " + text)
        self.refused(InvalidText, 0, Term.read, "(" + text + " + 01)")
        self.refused(InvalidText, 0, Term.read, text + text)
        self.refused(TooDeep, 60, Term.read, "(" + text + " + " + "-" * 60)
        self.refused(TooDeep, 60, Term.read, "-" * 60 + text)


if __name__ == "__main__":
    unittest.main()
