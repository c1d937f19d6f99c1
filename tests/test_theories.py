import itertools
import unittest

from selfpower import theories
from selfpower.equations import Equation
from selfpower.errors import InvalidEquation, InvalidPower, InvalidSize, InvalidText, TooMany, UnknownIndex
from selfpower.fields import Field, field_sizes
from selfpower.points import points_of
from selfpower.terms import Term
from selfpower.theories import Theory
from tests import oracle, term_oracle
from tests.checks import Case
from tests.oracle import ALL_SIZES, BELOW, NO_NUMBERS
from tests.test_terms import long

X, Y = Term.of("x"), Term.of("y")

COMMUTES = Equation.read("(x * y) = (y * x)")
ODD = Equation.read("where((x + x), 0, x, 0) = 0")
NONE = Equation.read("0 = 1")

AXIOMS = [
    "0 = 1", "0 = 2", "3 = 0", "1 = 1", "5 = -1", "x = 0", "x = y", "x = x", "(x * x) = x", "(x ** 3) = x", "(x ** 4) = x",
    "(x ** 0) = 1", "(x ** 8) = x", "(x ** 7) = x", "-x = x", "(x + x) = 0", "(x ** 1000000000000000000000000000000) = (x ** 2)",
    "where(x, 0, 1, (x * (x ** 2))) = 1", "where(x, y, 0, ((x - y) ** 2)) = where(x, y, 0, 1)", "(x * y) = (y * x)",
    "where((x + x), 0, x, 0) = 0", "((x + y) ** 2) = ((x ** 2) + (y ** 2))", "(x * (y - 1)) = ((x * y) - x)",
    "where(x, (x ** 4), x, 0) = x", "((x ** 8) - x) = where((x ** 8), x, 0, 1)",
]

NO_EQUATIONS = [value for value in NO_NUMBERS] + [0, 1, X, "x = y", Theory(2), (X, Y), [X, Y], Field(2), Equation]


def holds(equation, size):
    """Whether an equation holds in the field of a size for all elements, of which all rows are tried."""
    names = equation.names()
    rows = itertools.product(range(size), repeat=len(names))
    return all(equation.holds(Field(size), dict(zip(names, row))) for row in rows)


class Example(unittest.TestCase):
    def test_the_example_of_the_document(self):
        seven = Theory(7)
        odd = seven.with_axiom(Equation.read("where((x + x), 0, x, 0) = 0"))
        self.assertEqual([seven.sizes, odd.sizes, odd.gives(seven), seven.gives(odd), len(seven.points(2))],
                         [(2, 3, 4, 7), (3, 7), True, False, 68])


class Interface(Case):
    def test_parameters(self):
        self.has_methods(Theory, {
            "__init__": "(self, power, axioms=())", "axioms": "(self)", "field": "(self, size)", "points": "(self, many)",
            "with_axiom": "(self, equation)", "without": "(self, index)", "gives": "(self, other)", "text": "(self)",
            "read": "(text)",
        })
        for name in ("__eq__", "__repr__", "__len__"):
            self.assertIn(name, vars(Theory))
        for name in ("power", "sizes"):
            self.assertIsInstance(vars(Theory)[name], property)
        self.assertIsInstance(vars(Theory)["read"], staticmethod)
        self.assertEqual(Theory.__module__, theories.__name__)

    def test_calls_by_name(self):
        theory = Theory(axioms=[ODD], power=7)
        self.assertEqual(theory, Theory(7, [ODD]))
        self.assertEqual(theory.field(size=3), Field(3))
        self.assertEqual(theory.points(many=1), theory.points(1))
        self.assertEqual(theory.with_axiom(equation=NONE), Theory(7, [ODD, NONE]))
        self.assertEqual(theory.without(index=0), Theory(7))
        self.assertIs(theory.gives(other=Theory(7)), True)
        self.assertEqual(Theory.read(text="power 7"), Theory(7))


class Made(Case):
    def test_without_axioms(self):
        for power in range(2, 65):
            theory = Theory(power)
            self.assertEqual(theory.power, power)
            self.assertEqual(theory.sizes, tuple(field_sizes(power)))
            self.assertEqual([theory.axioms(), len(theory), theory], [[], 0, Theory(power, [])])
        self.assertEqual([Theory(2).sizes, Theory(64).sizes], [(2,), (2, 4, 8, 64)])

    def test_kinds(self):
        theory = Theory(7, [ODD])
        self.assertEqual([type(theory.power), type(theory.sizes), type(theory.axioms())], [int, tuple, list])

    def test_sizes_with_axioms(self):
        for text in AXIOMS:
            equation = Equation.read(text)
            for power in (2, 3, 4, 5, 7, 8, 9, 13, 16) + ((25, 27, 61, 64) if len(equation.names()) < 2 else ()):
                expected = tuple(size for size in field_sizes(power) if holds(equation, size))
                self.assertEqual(Theory(power, [equation]).sizes, expected, (power, text))

    def test_several_axioms(self):
        equations = [Equation.read(text) for text in AXIOMS]
        for power in (4, 7, 9, 16):
            alone = [set(Theory(power, [equation]).sizes) for equation in equations]
            for one in range(0, len(equations), 3):
                for other in range(len(equations)):
                    theory = Theory(power, [equations[one], COMMUTES, equations[other]])
                    self.assertEqual(list(theory.sizes), sorted(alone[one] & alone[other]))

    def test_models_as_axioms(self):
        kept = 0
        for seed in range(300):
            one, other = term_oracle.model_of(seed, 3), term_oracle.model_of(seed + 9000, 2)
            names = sorted(term_oracle.names(one) | term_oracle.names(other))
            if len(names) > 2:
                continue
            for power in (4, 5, 7):
                expected = [size for size in field_sizes(power) if all(
                    term_oracle.value(one, size, dict(zip(names, row))) == term_oracle.value(other, size, dict(zip(names, row)))
                    for row in itertools.product(range(size), repeat=len(names)))]
                theory = Theory(power, [Equation(term_oracle.made(one), term_oracle.made(other))])
                self.assertEqual(list(theory.sizes), expected)
                kept += 0 < len(expected) < len(field_sizes(power))
        self.assertGreater(kept, 10)

    def test_axioms_that_leave_no_size(self):
        for axiom in (NONE, Equation("x", 0), Equation("x", "y")):
            for power in (2, 7, 61, 64):
                if power < 61 or len(axiom.names()) < 2:
                    theory = Theory(power, [axiom])
                    self.assertEqual([theory.sizes, theory.points(0), theory.points(100)], [(), [], []])
                    self.assertEqual(repr(theory), "Theory(" + str(power) + ": none)")
                    self.refused(InvalidSize, 2, theory.field, 2)

    def test_axioms(self):
        given = [ODD, COMMUTES, ODD]
        for passed in (given, tuple(given)):
            theory = Theory(7, passed)
            self.assertEqual(theory.axioms(), [ODD, COMMUTES, ODD])
            self.assertEqual(len(theory), 3)

    def test_later_changes_have_no_effect(self):
        given = [ODD]
        theory = Theory(7, given)
        given.append(NONE)
        theory.axioms().append(NONE)
        theory.points(1).clear()
        self.assertEqual([theory.axioms(), theory.sizes, len(theory), len(theory.points(1))], [[ODD], (3, 7), 1, 10])
        self.assertEqual(theory.with_axiom(COMMUTES).axioms(), [ODD, COMMUTES])
        self.assertEqual(theory, Theory(7, [ODD]))

    def test_fields(self):
        for power in (2, 7, 61, 64):
            for size in field_sizes(power):
                field = Theory(power).field(size)
                self.assertEqual([field, type(field), field.size], [Field(size), Field, size])

    def test_no_sizes(self):
        for theory, sizes in ((Theory(7), (2, 3, 4, 7)), (Theory(7, [ODD]), (3, 7)), (Theory(7, [NONE]), ())):
            for value in NO_NUMBERS + ALL_SIZES + [0, 1, -2, 6, 100, 10 ** 30, [2], (3,)]:
                if not (type(value) is int and value in sizes):
                    self.refused(InvalidSize, value, theory.field, value)

    def test_points(self):
        for theory in (Theory(7), Theory(7, [ODD]), Theory(64), Theory(9), Theory(4, [Equation.read("(x * x) = x")])):
            for many in range(3):
                self.assertEqual(theory.points(many), points_of(list(theory.sizes), many))
        self.assertEqual(Theory(4).points(1), [(2, (0,)), (2, (1,)), (4, (2,))])
        self.assertEqual([len(Theory(7).points(many)) for many in range(4)], [3, 13, 68, 8 + 27 + 28 + 343])

    def test_too_many_points(self):
        for theory, most in ((Theory(2), 12), (Theory(61), 2), (Theory(64), 2), (Theory(7), 4), (Theory(3), 7)):
            theory.points(most)
            for many in (most + 1, most + 2, 50, 10 ** 30):
                self.refused(TooMany, 6000, theory.points, many)
        self.assertEqual(len(Theory(7, [Equation.read("x = (x ** 2)")]).points(12)), 4096)

    def test_equality(self):
        for one, other, same in (
                (Theory(7), Theory(7, ()), True), (Theory(7, [ODD]), Theory(7, (ODD,)), True), (Theory(7), Theory(4), False),
                (Theory(7, [ODD]), Theory(7), False), (Theory(7, [ODD, COMMUTES]), Theory(7, [COMMUTES, ODD]), False),
                (Theory(7, [ODD, ODD]), Theory(7, [ODD]), False), (Theory(6), Theory(2), False),
                (Theory(7, [Equation("x", "x")]), Theory(7, [Equation("y", "y")]), False),
                (Theory(7, [NONE, ODD]), Theory(7, [NONE, ODD]), True)):
            self.assertIs(one == other, same)
            self.assertIs(one != other, not same)

    def test_a_theory_equals_nothing_else(self):
        self.equals_nothing_of_another_kind(Theory(7), [7, "power 7", (2, 3, 4, 7), [], (), "Theory(7: 2 3 4 7)"])
        self.equals_nothing_of_another_kind(Theory(7, [ODD]), [[ODD], (7, [ODD]), ODD])

    def test_repr(self):
        self.assertEqual(repr(Theory(7)), "Theory(7: 2 3 4 7)")
        self.assertEqual(repr(Theory(7, [ODD])), "Theory(7: 3 7)")
        self.assertEqual(repr(Theory(7, [NONE])), "Theory(7: none)")
        self.assertEqual(repr(Theory(2)), "Theory(2: 2)")


class Refused(Case):
    def test_no_powers(self):
        for value in NO_NUMBERS + [1, 0, -1, -7, 65, 66, 10 ** 30, -10 ** 30, (7,), [7], "7", X]:
            self.refused(InvalidPower, value, Theory, value)
            # A power that is none goes ahead of all that is wrong with the axioms.
            self.refused(InvalidPower, value, Theory, value, [None, long_axiom(13)])

    def test_no_equations(self):
        for value in NO_EQUATIONS:
            self.refused(InvalidEquation, value, Theory, 7, [value])
            self.refused(InvalidEquation, value, Theory, 7, (ODD, value, None))
            self.refused(InvalidEquation, value, Theory, 7, [long_axiom(13), ODD, value, "x", 5])
            self.refused(InvalidEquation, value, Theory(7).with_axiom, value)
            self.refused(InvalidEquation, value, Theory(7, [NONE]).with_axiom, value)

    def test_too_many_points(self):
        for power, most in ((2, 12), (3, 7), (7, 4), (61, 2), (64, 2), (16, 3)):
            self.assertEqual(len(Theory(power, [long_axiom(most)])), 1)
            for many in (most + 1, most + 2, 20, 200):
                self.refused(TooMany, 6000, Theory, power, [long_axiom(many)])
                self.refused(TooMany, 6000, Theory, power, [ODD, long_axiom(many), ODD])
                self.refused(TooMany, 6000, Theory(power, [ODD]).with_axiom, long_axiom(many))

    def test_the_sizes_of_the_power_count(self):
        # The other axiom leaves no size, so no points; still those of the power are counted.
        self.refused(TooMany, 6000, Theory, 2, [NONE, long_axiom(13)])
        self.refused(TooMany, 6000, Theory, 2, [long_axiom(13), NONE])
        self.refused(TooMany, 6000, Theory(2, [NONE]).with_axiom, long_axiom(13))

    def test_names_of_one_axiom_count_by_themselves(self):
        axioms = [Equation("a" * (1 + place // 20) + "abcdefghijklmnopqrst"[place % 20], "x") for place in range(40)]
        self.assertEqual(Theory(64, axioms).sizes, ())


def long_axiom(many):
    """An equation with so many names that holds for all elements."""
    names = [first + second for first in "abcdghjklmnopqrs" for second in "abcdghjklmnopqrs"][:many]
    total = [Term.of(name) for name in names]
    while len(total) > 1:
        total = [total[at] + total[at + 1] if at + 1 < len(total) else total[at] for at in range(0, len(total), 2)]
    return Equation(total[0], total[0])


class Changed(Case):
    def test_with_axiom(self):
        theory = Theory(7)
        longer = theory.with_axiom(ODD).with_axiom(COMMUTES)
        self.assertEqual(longer, Theory(7, [ODD, COMMUTES]))
        self.assertEqual([theory.axioms(), theory.sizes, longer.sizes], [[], (2, 3, 4, 7), (3, 7)])
        self.assertEqual(theory.with_axiom(ODD).with_axiom(ODD).axioms(), [ODD, ODD])

    def test_without(self):
        theory = Theory(7, [ODD, COMMUTES, NONE])
        self.assertEqual(theory.without(0), Theory(7, [COMMUTES, NONE]))
        self.assertEqual(theory.without(1), Theory(7, [ODD, NONE]))
        self.assertEqual(theory.without(2), Theory(7, [ODD, COMMUTES]))
        self.assertEqual([theory.sizes, theory.without(2).sizes, theory.without(2).without(0).sizes],
                         [(), (3, 7), (2, 3, 4, 7)])
        self.assertEqual(theory, Theory(7, [ODD, COMMUTES, NONE]))
        self.assertEqual(Theory(7, [ODD, ODD]).without(1), Theory(7, [ODD]))

    def test_no_indexes(self):
        for axioms in ([], [ODD], [ODD, NONE, COMMUTES]):
            theory = Theory(7, axioms)
            for value in NO_NUMBERS + [-1, -2, -len(axioms), len(axioms), len(axioms) + 1, 10 ** 30, [0], (0,), "0", ODD]:
                if value != 0 or isinstance(value, bool) or not axioms:
                    self.refused(UnknownIndex, value, theory.without, value)
            self.assertEqual(theory, Theory(7, axioms))

    def test_gives(self):
        made = [Theory(power, axioms) for power in (2, 3, 4, 6, 7, 13, 64) for axioms in ([], [ODD], [NONE])]
        for one in made:
            for other in made:
                self.assertIs(one.gives(other), set(one.sizes) <= set(other.sizes))
        self.assertIs(Theory(2).gives(Theory(7)), True)
        self.assertIs(Theory(7).gives(Theory(2)), False)
        self.assertIs(Theory(2).gives(Theory(6)) and Theory(6).gives(Theory(2)), True)
        self.assertIs(Theory(7, [NONE]).gives(Theory(2)), True)
        self.assertIs(Theory(2).gives(Theory(7, [NONE])), False)
        self.assertIs(Theory(7, [NONE]).gives(Theory(5, [NONE])), True)


class SmallFields(Case):
    def test_sizes_of_fields_that_lie_in_one_of_the_theory(self):
        for power in range(2, 65):
            for axioms in ([], [Equation.read("(x ** 4) = x")], [Equation.read("(x ** 8) = x")], [Equation.read("3 = 0")],
                           [Equation.read("where(x, (x ** 4), 0, 1) = where(x, (x ** 2), 0, 1)")]):
                sizes = Theory(power, axioms).sizes
                for small, great in BELOW:
                    self.assertTrue(great not in sizes or small in sizes, (power, axioms))

    def test_axioms_that_only_break_in_a_field_that_lies_in_it(self):
        # What is wrong for elements of the small field is wrong for them in the great one, too.
        for power, text, sizes in ((16, "2 = 1", ()), (16, "where(x, (x ** 2), 0, x) = x", ()),
                                   (16, "where((x ** 4), x, x, 0) = where((x ** 4), x, (x ** 2), 0)", (2,)),
                                   (64, "where((x ** 8), x, x, 0) = where((x ** 8), x, (x ** 2), 0)", (2, 4)),
                                   (64, "where((x ** 4), x, x, 0) = where((x ** 4), x, (x ** 2), 0)", (2, 8)),
                                   (9, "where((x ** 3), x, (x ** 2), 0) = where((x ** 3), x, 1, 0)", ())):
            self.assertEqual(Theory(power, [Equation.read(text)]).sizes, sizes, text)

    def test_each_element_is_its_own_power(self):
        for power in range(2, 65):
            theory = Theory(power)
            for size in theory.sizes:
                field = theory.field(size)
                for item in range(size):
                    self.assertEqual(field.raised(item, power), item)
                    self.assertEqual(term_oracle.power(size, item, power), item)
            self.assertEqual(theory.with_axiom(Equation(X ** power, X)).sizes, theory.sizes)
            for size in ALL_SIZES:
                if size not in theory.sizes:
                    self.assertTrue(any(oracle.power(size, item, power) != item for item in range(size)))


class Texts(Case):
    def test_there_and_back(self):
        for power in (2, 7, 10, 61, 64):
            for axioms in ([], [ODD], [NONE, ODD], [ODD, ODD, Equation(-1, "x")]):
                text = "\n".join(["power " + str(power)] + ["axiom " + axiom.text() for axiom in axioms])
                theory = Theory(power, axioms)
                self.assertEqual(theory.text(), text)
                self.assertEqual(Theory.read(text), theory)
                self.assertEqual(Theory.read(text).sizes, theory.sizes)

    def test_by_hand(self):
        self.assertEqual(Theory(7).text(), "power 7")
        self.assertEqual(Theory(7, [ODD]).text(), "power 7\naxiom where((x + x), 0, x, 0) = 0")
        self.assertEqual(Theory.read("power 4\naxiom x = y\naxiom 1 = 1").axioms(), [Equation("x", "y"), Equation(1, 1)])

    def test_no_strings(self):
        for value in [value for value in NO_NUMBERS if not isinstance(value, str)] + [7, 0, ["power 7"], ("power 7",), ODD,
                                                                                   Theory(7)]:
            self.refused(InvalidText, 0, Theory.read, value)

    def test_first_lines_that_are_not_right(self):
        for line in ["", " ", "power", "power ", "power 1", "power 0", "power 65", "power 100", "power -7", "power +7",
                     "power 07", "power 7 ", " power 7", "power  7", "power 7 8", "power x", "Power 7", "powers 7", "power7",
                     "7", "axiom x = y", "power " + "9" * 31, "power " + "9" * 40, "power " + "9" * 5000, "power 7.0",
                     "power 1_0", "power 0x7", "power 002", "power two", "axiom power 7", "power\t7", "power=7"]:
            self.refused(InvalidText, 0, Theory.read, line)
            self.refused(InvalidText, 0, Theory.read, line + "\naxiom x = y")
            self.refused(InvalidText, 0, Theory.read, line + "\nwrong\naxiom " + long_axiom(13).text())

    def test_other_lines_that_are_not_right(self):
        for line in ["", " ", "axiom", "axiom ", "axiom x", "axiom  x = y", " axiom x = y", "axiom x = y ", "axiom x=y", "x = y",
                     "axioms x = y", "Axiom x = y", "power 7", "axiom x = y = z", "axiom where = 1", "axiom x = 01",
                     "axiom x = " + "-" * 60 + "x", "axiom " + "-" * 60 + " = ?", "axiom x = -" + long(40000).text(),
                     "axiom x = " + "9" * 32, "axiom (x ** 1" + "0" * 31 + ") = x", "axiom abcdefghi = 1", "fact f x = y"]:
            self.refused(InvalidText, 1, Theory.read, "power 2\n" + line)
            self.refused(InvalidText, 3, Theory.read, "power 7\naxiom x = y\naxiom 1 = 0\n" + line)
            self.refused(InvalidText, 2, Theory.read, "power 7\naxiom x = y\n" + line + "\naxiom x = y\n\nwrong")
            # Lines that are not right go ahead of axioms with too many names.
            self.refused(InvalidText, 2, Theory.read, "power 2\naxiom " + long_axiom(13).text() + "\n" + line)

    def test_line_feeds(self):
        self.refused(InvalidText, 1, Theory.read, "power 7\n")
        self.refused(InvalidText, 2, Theory.read, "power 7\naxiom x = y\n")
        self.refused(InvalidText, 0, Theory.read, "\npower 7")
        self.refused(InvalidText, 1, Theory.read, "power 7\n\naxiom x = y")
        self.refused(InvalidText, 1, Theory.read, "power 7\npower 7")

    def test_too_many_points(self):
        self.assertEqual(Theory.read("power 2\naxiom " + long_axiom(12).text()).sizes, (2,))
        self.refused(TooMany, 6000, Theory.read, "power 2\naxiom " + long_axiom(13).text())
        self.refused(TooMany, 6000, Theory.read, "power 2\naxiom 0 = 1\naxiom " + long_axiom(13).text() + "\naxiom x = y")

    def test_a_character_more_less_or_twice(self):
        text = "power 7\naxiom x = -1\naxiom 0 = y"
        for at in range(len(text) + 1):
            for changed in [text[:at] + text[at + 1:], text[:at] + text[at:at + 1] + text[at:]] + [
                    text[:at] + sign + text[at:] for sign in " x07-\n"]:
                lines = changed.split("\n")
                wrong = [place for place, line in enumerate(lines) if not self._is_right(place, line)]
                if wrong:
                    self.refused(InvalidText, wrong[0], Theory.read, changed)
                else:
                    self.assertEqual(Theory.read(changed).text(), changed)

    def _is_right(self, place, line):
        if place == 0:
            return line in ["power " + str(power) for power in range(2, 65)]
        one, parting, other = line.removeprefix("axiom ").partition(" = ")
        return line.startswith("axiom ") and bool(parting) and term_oracle.is_text(one) and term_oracle.is_text(other)


if __name__ == "__main__":
    unittest.main()
