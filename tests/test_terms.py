import functools
import unittest

from selfpower import terms
from selfpower.errors import InvalidNumber, InvalidTerm, TooDeep, TooMany
from selfpower.equations import Equation
from selfpower.fields import Field
from selfpower.terms import Term, is_name
from tests import term_oracle
from tests.checks import Case, NO_NAMES, NO_TERMS
from tests.oracle import NO_NUMBERS
from tests.term_oracle import NAMES, RESERVED

X, Y = Term.of("x"), Term.of("y")

# Values that are neither Terms nor whole numbers: beside a sign, names are none of the right ones either.
NO_SIDES = NO_TERMS + ["x", "y", Equation("x", 1), Field(4), [X], (X, Y)]

NO_EXPONENTS = NO_NUMBERS + [-1, -2, 10 ** 30 + 1, 10 ** 31, -10 ** 30, X, [2], (2,), "2", Term.of(2)]


def deep(depth):
    """A term that is nested so deep: opposites of x."""
    term = X
    for _ in range(depth - 1):
        term = -term
    return term


@functools.cache
def long(many):
    """A term with so many parts: sums and opposites of ones, nested as little as may be."""
    if many == 1:
        return Term.of(1)
    if many % 2 == 0:
        return -long(many - 1)
    rest = many // 2
    return long(rest) + long(many - 1 - rest)


class Example(unittest.TestCase):
    def test_the_example_of_the_document(self):
        x, y = Term.of("x"), Term.of("y")
        term = 2 * x - Term.where(x, y, 1, y ** 3)
        self.assertEqual(
            [term.text(), term.names(), term.filled(x=y, y=-1).text(),
             Term.read("(x + 3)").evaluate(Field(7), {"x": 5})],
            ["((2 * x) - where(x, y, 1, (y ** 3)))", ["x", "y"], "((2 * y) - where(y, -1, 1, (-1 ** 3)))", 1])


class Interface(Case):
    def test_parameters(self):
        self.has_methods(Term, {
            "of": "(value)", "where": "(one, other, first, second)", "read": "(text)", "raised": "(self, exponent)",
            "names": "(self)", "depth": "(self)", "filled": "(self, **parts)", "evaluate": "(self, field, given)",
            "text": "(self)",
        })
        self.has_methods(terms, {"is_name": "(value)"})
        for name in ("__add__", "__radd__", "__sub__", "__rsub__", "__mul__", "__rmul__", "__neg__", "__pow__",
                     "__eq__", "__str__", "__repr__"):
            self.assertIn(name, vars(Term))
        for name in ("of", "where", "read"):
            self.assertIsInstance(vars(Term)[name], staticmethod)

    def test_defined_here(self):
        self.assertEqual(Term.__module__, terms.__name__)
        self.assertEqual(is_name.__module__, terms.__name__)

    def test_calls_by_name(self):
        self.assertIs(is_name(value="x"), True)
        self.assertEqual(Term.of(value="x"), X)
        self.assertEqual(Term.where(second=4, first=3, other=2, one=1).text(), "where(1, 2, 3, 4)")
        self.assertEqual(Term.read(text="x"), X)
        self.assertEqual(X.raised(exponent=3), X ** 3)
        self.assertEqual(X.evaluate(given={"x": 3}, field=Field(4)), 3)


class Names(Case):
    def test_names(self):
        for value in NAMES + ["a", "z", "ab", "abcdefgh", "zzzzzzzz", "wheres", "iff", "ends", "elses", "input",
                              "output", "calls", "powers", "axioms", "fact", "drop", "same", "names", "set", "test",
                              "program" + "s", "none", "or"]:
            self.assertIs(is_name(value), True, value)

    def test_each_letter(self):
        for letter in "abcdefghijklmnopqrstuvwxyz":
            self.assertIs(is_name(letter), True)
        for code in range(32, 128):
            if not "a" <= chr(code) <= "z":
                for value in (chr(code), "x" + chr(code), chr(code) + "x", "x" + chr(code) + "x"):
                    self.assertIs(is_name(value), False, value)

    def test_how_many_letters(self):
        for many in range(12):
            self.assertIs(is_name("x" * many), 1 <= many <= 8)

    def test_reserved_words(self):
        self.assertEqual(len(RESERVED), 11)
        for value in RESERVED:
            self.assertIs(is_name(value), False)
            self.assertIs(is_name("x" + value[:7]), True)

    def test_other_values(self):
        for value in NO_NAMES + [X, Equation("x", "y"), "x\ny", "\n"]:
            self.assertIs(is_name(value), False)


class OneValue(Case):
    def test_names(self):
        for name in NAMES:
            self.assertEqual(Term.of(name).text(), name)
            self.assertEqual(Term.of(name).names(), [name])
            self.assertEqual(Term.of(name).depth(), 1)

    def test_numbers(self):
        for number in (0, 1, 2, 10, 64, 10 ** 30, 10 ** 31 - 1):
            self.assertEqual(Term.of(number).text(), str(number))
            self.assertEqual(Term.of(number).names(), [])
            self.assertEqual(Term.of(number).depth(), 1)

    def test_numbers_below_0_are_opposites(self):
        for number in (1, 2, 10, 10 ** 31 - 1):
            self.assertEqual(Term.of(-number), -Term.of(number))
            self.assertEqual(Term.of(-number).text(), "-" + str(number))
            self.assertEqual(Term.of(-number).depth(), 2)

    def test_numbers_that_are_longer_are_no_error(self):
        for number in (10 ** 31, 12345 * 10 ** 60 + 67, 10 ** 64, 10 ** 128 + 5):
            self.assertEqual(Term.of(number).text(), str(number))
            self.assertEqual(Term.of(-number).text(), "-" + str(number))
            self.assertEqual((X + number).text(), "(x + " + str(number) + ")")
        self.assertEqual(Term.of(10 ** 9999 + 70).text(), "1" + "0" * 9997 + "70")
        self.assertEqual(Term.of(10 ** 9999).evaluate(Field(7), {}), pow(10, 9999, 7))

    def test_terms(self):
        for term in (X, X + 1, -X, Term.of(-3), X ** 10 ** 30, Term.where(X, 1, 2, Y), deep(60), long(40000)):
            self.assertEqual(Term.of(term), term)
            self.assertIs(type(Term.of(term)), Term)

    def test_other_values(self):
        for value in NO_TERMS + RESERVED + [Equation("x", 1), Field(4), [X]]:
            self.refused(InvalidTerm, value, Term.of, value)


class Signs(Case):
    def test_texts(self):
        for term, text in (
                (X + Y, "(x + y)"), (X - Y, "(x - y)"), (X * Y, "(x * y)"), (-X, "-x"), (X ** 5, "(x ** 5)"),
                (X + 1, "(x + 1)"), (1 + X, "(1 + x)"), (X - 1, "(x - 1)"), (1 - X, "(1 - x)"), (X * 2, "(x * 2)"),
                (2 * X, "(2 * x)"), (X + -1, "(x + -1)"), (-1 + X, "(-1 + x)"), (X - -1, "(x - -1)"),
                (-2 * X, "(-2 * x)"), (0 - X, "(0 - x)"), (- -X, "--x"), (-(X + Y), "-(x + y)"), ((-X) ** 2, "(-x ** 2)"),
                (-X ** 2, "-(x ** 2)"), (X + Y * 2 - 3, "((x + (y * 2)) - 3)"), (X.raised(0), "(x ** 0)"),
                ((X ** 2) ** 3, "((x ** 2) ** 3)"), (X * X * X, "((x * x) * x)"), (sum([X, Y]), "((0 + x) + y)")):
            self.assertEqual(term.text(), text)
            self.assertEqual(str(term), text)
            self.assertEqual(repr(term), "Term(" + text + ")")
            self.assertIs(type(term), Term)
            self.assertEqual(Term.read(text), term)

    def test_the_repr_of_the_document(self):
        self.assertEqual(repr(X + 1), "Term((x + 1))")
        self.assertEqual(repr(X), "Term(x)")

    def test_where(self):
        for given, text in (((X, Y, Term.of("z"), 1), "where(x, y, z, 1)"), (("x", "y", "z", 1), "where(x, y, z, 1)"),
                            ((0, -1, "x", X + 1), "where(0, -1, x, (x + 1))"), ((1, 2, 3, 4), "where(1, 2, 3, 4)"),
                            ((X, X, X, X), "where(x, x, x, x)")):
            term = Term.where(*given)
            self.assertEqual([term.text(), str(term), repr(term)], [text, text, "Term(" + text + ")"])

    def test_exponents(self):
        for exponent in (0, 1, 2, 9, 10, 64, 10 ** 29, 10 ** 30 - 1, 10 ** 30):
            text = "(x ** " + str(exponent) + ")"
            self.assertEqual((X ** exponent).text(), text)
            self.assertEqual(X.raised(exponent).text(), text)
            self.assertEqual(X.raised(exponent), X ** exponent)

    def test_models(self):
        for seed in range(400):
            model = term_oracle.model_of(seed, 1 + seed % 7)
            term, text = term_oracle.made(model), term_oracle.text(model)
            self.assertEqual([term.text(), str(term), repr(term)], [text, text, "Term(" + text + ")"])
            self.assertEqual(term.names(), sorted(term_oracle.names(model)))
            self.assertEqual(term.depth(), term_oracle.depth(model))

    def test_names_are_ascending_and_not_twice(self):
        term = Term.of("z") + X * Term.of("zz") - Term.where("b", "a", "x", X + 2) ** 2
        self.assertEqual(term.names(), ["a", "b", "x", "z", "zz"])
        self.assertEqual((X + X * X).names(), ["x"])
        self.assertEqual((Term.of(1) + 2).names(), [])

    def test_changes_of_the_list_of_names_have_no_effect(self):
        term = X + Y
        term.names().append("z")
        term.names().clear()
        self.assertEqual(term.names(), ["x", "y"])
        self.assertEqual(term.text(), "(x + y)")

    def test_signs_change_no_term(self):
        term = X + Y
        kept = term
        term += 1
        term *= 2
        term -= X
        self.assertEqual([kept.text(), X.text()], ["(x + y)", "x"])
        self.assertEqual(term.text(), "((((x + y) + 1) * 2) - x)")
        kept ** 2, -kept, kept + kept, Term.where(kept, kept, 0, 0), kept.filled(x=1)
        self.assertEqual(kept.text(), "(x + y)")

    def test_depths(self):
        for term, depth in ((X, 1), (Term.of(5), 1), (-X, 2), (Term.of(-5), 2), (X + 1, 2), (X - -1, 3), (X ** 9, 2),
                            (Term.where(1, 2, 3, X + 1), 3), (X + (Y + (X + 1)), 4), ((X + Y) * (-X), 3), (deep(60), 60)):
            self.assertEqual(term.depth(), depth)


class Equality(Case):
    def test_equal_texts(self):
        models = [term_oracle.model_of(seed, 1 + seed % 3) for seed in range(60)]
        for one in models:
            for other in models:
                same = term_oracle.text(one) == term_oracle.text(other)
                self.assertIs(term_oracle.made(one) == term_oracle.made(other), same)
                self.assertIs(term_oracle.made(one) != term_oracle.made(other), not same)

    def test_order_and_form_count(self):
        for one, other in ((X + Y, Y + X), (X + X, 2 * X), (X ** 2, X * X), (-Term.of(0), Term.of(0)), (X - Y, X + -Y),
                           (X ** 1, X), (Term.of(7), Term.of(-7))):
            self.assertIs(one == other, False)

    def test_a_term_equals_nothing_else(self):
        self.equals_nothing_of_another_kind(X, ["x", Equation("x", "x"), ["x"]])
        self.equals_nothing_of_another_kind(Term.of(1), ["1"])
        self.equals_nothing_of_another_kind(X + 1, ["(x + 1)", "Term((x + 1))"])


class Refused(Case):
    def test_beside_signs(self):
        for value in NO_SIDES:
            for term in (X, X + 1, Term.of(2)):
                self.refused(InvalidTerm, value, lambda other: term + other, value)
                self.refused(InvalidTerm, value, lambda other: term - other, value)
                self.refused(InvalidTerm, value, lambda other: term * other, value)
                self.refused(InvalidTerm, value, lambda other: other + term, value)
                self.refused(InvalidTerm, value, lambda other: other - term, value)
                self.refused(InvalidTerm, value, lambda other: other * term, value)

    def test_exponents(self):
        for value in NO_EXPONENTS:
            self.refused(InvalidNumber, value, lambda exponent: X ** exponent, value)
            self.refused(InvalidNumber, value, X.raised, value)
            self.refused(InvalidNumber, value, deep(60).raised, value)

    def test_choices(self):
        for value in NO_TERMS + RESERVED + [Equation("x", 1)]:
            for place in range(4):
                # Behind the first wrong value, others may stand that are wrong, too.
                for other in ("where", None, [X], False):
                    given = ["x", 1, X, -1][:place] + [value] + [other] * (3 - place)
                    self.refused(InvalidTerm, value, Term.where, *given)

    def test_a_later_change_of_a_list_does_not_change_the_error(self):
        passed = [1, [2]]
        for call in (Term.of, lambda value: X + value, lambda value: value * X, X.raised,
                     lambda value: Term.where(value, 1, 1, 1), lambda value: X.filled(x=value)):
            with self.assertRaises((InvalidTerm, InvalidNumber)) as caught:
                call(passed)
            passed[1].append(3)
            self.assertEqual(caught.exception.value, [1, [2]])
            passed[1].pop()


class DeepTerms(Case):
    def test_60_deep(self):
        self.assertEqual(deep(60).depth(), 60)
        self.assertEqual(deep(60).text(), "-" * 59 + "x")
        for term in (deep(59) + 1, 1 + deep(59), deep(59) - X, deep(59) * Y, X * deep(59), -deep(59), deep(59) ** 3,
                     Term.where(deep(59), 1, 2, 3), Term.where(1, 2, 3, deep(59)), deep(58) + -1, deep(59) + -1):
            self.assertEqual(Term.read(term.text()), term)
            self.assertEqual(term.depth() in (59, 60), True)

    def test_61_deep(self):
        term = deep(60)
        for call in (lambda: term + 1, lambda: 1 + term, lambda: term - X, lambda: 1 - term, lambda: term * term,
                     lambda: X * term, lambda: 2 * term, lambda: -term, lambda: term ** 0, lambda: term.raised(2),
                     lambda: Term.where(term, 1, 1, 1), lambda: Term.where(1, term, 1, 1),
                     lambda: Term.where(1, 1, term, 1), lambda: Term.where("x", 1, 1, term)):
            self.refused(TooDeep, 60, call)

    def test_other_errors_go_ahead(self):
        term = deep(60)
        self.refused(InvalidTerm, "y", lambda: term + "y")
        self.refused(InvalidTerm, True, lambda: True * term)
        self.refused(InvalidNumber, -1, lambda: term ** -1)
        self.refused(InvalidNumber, None, lambda: term.raised(None))
        self.refused(InvalidTerm, [], Term.where, term, term, term, [])


class LongTerms(Case):
    def test_how_many_parts(self):
        # The same terms as sums of ones are counted by their texts.
        for many in (1, 2, 3, 10, 999, 40000):
            text = long(many).text()
            self.assertEqual(text.count("1") + text.count("+") + text.count("-"), many)

    def test_40000_parts(self):
        for term in (-long(39999), long(39998) + 1, long(20000) - long(19999),
                     2 * long(39998), long(39999) ** 5, Term.where(long(39996), 1, 1, 1), long(39997) + -1):
            self.assertEqual(Term.read(term.text()), term)

    def test_40001_parts(self):
        for call in (lambda: -long(40000), lambda: long(39999) + 1, lambda: 1 + long(39999), lambda: long(39998) - -1,
                     lambda: long(20000) - long(20000), lambda: long(20000) * long(20000), lambda: long(40000) ** 1,
                     lambda: long(40000).raised(0), lambda: Term.where(long(39997), 1, 1, 1),
                     lambda: Term.where(1, 1, 1, long(39997)), lambda: Term.where(*[long(10000)] * 4)):
            self.refused(TooMany, 40000, call)

    def test_exponents_are_no_parts(self):
        self.assertTrue((long(39999) ** 10 ** 30).text().endswith(" ** 1" + "0" * 30 + ")"))
        self.refused(TooMany, 40000, lambda: long(40000) ** 10 ** 30)

    def test_each_term_counts_as_often_as_it_occurs(self):
        term = X
        for _ in range(14):
            term = term + term
        self.assertEqual(term.text().count("x"), 2 ** 14)
        self.refused(TooMany, 40000, lambda: term + term)

    def test_too_deep_goes_ahead(self):
        term = long(39000)
        while term.depth() < 60:
            term = -term
        self.refused(TooDeep, 60, lambda: term * term)
        self.refused(TooDeep, 60, lambda: Term.where(term, term, term, term))
        self.refused(TooMany, 40000, lambda: long(39000) * long(39000))
        self.refused(InvalidTerm, "x", lambda: term * "x")
        self.refused(InvalidNumber, "x", lambda: long(40000) ** "x")


if __name__ == "__main__":
    unittest.main()
