import itertools
import unittest

from selfpower import worlds
from selfpower.equations import Equation
from selfpower.errors import InvalidElement, InvalidNumber, InvalidSize, TooMany, UnknownName
from selfpower.fields import Field
from selfpower.programs import Program
from selfpower.terms import Term
from selfpower.theories import Theory
from selfpower.worlds import World
from tests import oracle, term_oracle
from tests.checks import Case
from tests.oracle import ALL_SIZES, NO_NUMBERS

X, Y = Term.of("x"), Term.of("y")

NO_SIZES = NO_NUMBERS + [0, 1, -2, 6, 10, 12, 15, 63, 65, 128, 10 ** 30]


class Example(unittest.TestCase):
    def test_the_example_of_the_document(self):
        program = Program("p", ["x"], [("test", "x", 0, [], [("set", "x", 1)])], ["x"])
        world = World(2) * World(4)
        self.assertEqual([world.trace(program, (0, 0)), world.trace(program, (0, 3)), world.number(-1)],
                         [((True,), ((0, 0),)), ((False,), ((1, 1),)), (1, 1)])


class Interface(Case):
    def test_parameters(self):
        self.has_methods(World, {
            "__init__": "(self, *sizes)", "is_member": "(self, value)", "number": "(self, value)",
            "evaluate": "(self, term, given)", "holds": "(self, equation, given)", "run": "(self, program, *row)",
            "trace": "(self, program, *row)", "obeys": "(self, theory)",
        })
        for name in ("__eq__", "__repr__", "__len__", "__mul__"):
            self.assertIn(name, vars(World))
        self.assertIsInstance(vars(World)["sizes"], property)
        self.assertEqual(World.__module__, worlds.__name__)

    def test_calls_by_name(self):
        world = World(2, 4)
        self.assertIs(world.is_member(value=(1, 3)), True)
        self.assertEqual(world.number(value=3), (1, 1))
        self.assertEqual(world.evaluate(given={"x": (1, 3)}, term=X + 1), (0, 2))
        self.assertIs(world.holds(given={"x": (1, 3)}, equation=Equation(X, 1)), False)
        self.assertIs(world.obeys(theory=Theory(4)), True)


class Made(Case):
    def test_sizes_in_any_order_with_duplicates(self):
        for sizes in ((2,), (64,), (4, 2), (2, 4), (9, 9, 2, 9), (61, 2, 61, 3), tuple(ALL_SIZES[:16]),
                      tuple(ALL_SIZES[:-17:-1]), (2,) * 16, (27, 64) * 8):
            world = World(*sizes)
            self.assertEqual([world.sizes, len(world)], [sizes, len(sizes)])
            self.assertEqual([type(world.sizes), type(len(world))], [tuple, int])

    def test_all_sizes(self):
        for size in ALL_SIZES:
            self.assertEqual(World(size).sizes, (size,))
            self.assertEqual(repr(World(size)), "World(" + str(size) + ")")

    def test_reprs(self):
        self.assertEqual([repr(World(2, 4)), repr(World(4, 2, 4)), str(World(2, 4))],
                         ["World(2, 4)", "World(4, 2, 4)", "World(2, 4)"])

    def test_other_sizes(self):
        for value in NO_SIZES:
            self.refused(InvalidSize, value, World, value)
            self.refused(InvalidSize, value, World, 2, value, 6)
            self.refused(InvalidSize, value, World, 2, 4, 64, value)
            # A wrong size goes ahead of too many.
            self.refused(InvalidSize, value, World, *[2] * 16, value)
            self.refused(InvalidSize, value, World, value, *[2] * 20)
        self.refused(InvalidSize, [2, 4], World, [2, 4])
        self.refused(InvalidSize, (2, 4), World, (2, 4))

    def test_how_many_sizes(self):
        self.refused(InvalidNumber, 0, World)
        self.assertEqual(len(World(*[3] * 16)), 16)
        self.refused(TooMany, 16, World, *[3] * 17)
        self.refused(TooMany, 16, World, *ALL_SIZES)


class Equal(Case):
    def test_equal_sizes_in_order(self):
        made = [(2,), (4,), (2, 4), (4, 2), (2, 2), (2, 2, 4), (2, 4, 2), (4, 4)]
        for one, other in itertools.product(made, made):
            self.assertIs(World(*one) == World(*other), one == other)
            self.assertIs(World(*one) != World(*other), one != other)

    def test_equals_nothing_of_another_kind(self):
        self.equals_nothing_of_another_kind(World(2), [(2,), [2], "World(2)", Field(2), Theory(2)])


class Products(Case):
    def test_sizes_of_both(self):
        for one, other in (((2,), (4,)), ((4,), (2,)), ((2, 3), (3, 2)), ((2,) * 8, (61,) * 8), ((5,) * 15, (7,))):
            left, right = World(*one), World(*other)
            self.assertEqual((left * right).sizes, one + other)
            self.assertEqual(left * right, World(*one, *other))
            self.assertEqual([left.sizes, right.sizes], [one, other])
        world = World(2, 4)
        self.assertEqual((world * world * world).sizes, (2, 4) * 3)

    def test_too_many(self):
        for many in range(1, 17):
            one = World(*[2] * many)
            if many < 16:
                self.assertEqual((one * World(*[3] * (16 - many))).sizes, (2,) * many + (3,) * (16 - many))
            self.refused(TooMany, 16, World.__mul__, one, World(*[3] * (17 - many)))
            self.refused(TooMany, 16, World.__mul__, World(*[3] * (17 - many)), one)
        self.refused(TooMany, 16, World.__mul__, World(*[3] * 16), World(*[3] * 16))


class Members(Case):
    def test_members(self):
        for sizes in ((2,), (3, 2), (2, 3), (4, 2, 4)):
            world = World(*sizes)
            for row in itertools.product(range(-1, 6), repeat=len(sizes)):
                self.assertIs(world.is_member(row), all(0 <= item < size for item, size in zip(row, sizes)))
        self.assertIs(World(64, 61).is_member((63, 60)), True)
        self.assertIs(World(64, 61).is_member((60, 61)), False)

    def test_other_values(self):
        world = World(2, 4)
        for value in NO_NUMBERS + [0, 1, 2, (0,), (1, 1, 1), (1, 1, 0), [0, 1], [1, 3], (1, [3]), ((1, 3),), [(1, 3)],
                                   (True, 3), (1, True), (False, 0), (0, None), (0, "1"), (0, (1,)), (2, 1), (0, 4),
                                   (0, -1), (-1, 0), X, world, {0: 1, 1: 2}]:
            self.assertIs(world.is_member(value), False, value)
        self.assertIs(World(2).is_member(1), False)
        self.assertIs(World(2).is_member((1,)), True)
        self.assertIs(World(2).is_member([1]), False)

    def test_numbers(self):
        for sizes in ((2,), (3, 2, 4), (64, 61, 27, 64), tuple(ALL_SIZES[:16]), tuple(ALL_SIZES[11:])):
            world = World(*sizes)
            for number in list(range(-70, 70)) + [10 ** 30, 1 - 10 ** 31]:
                self.assertEqual(world.number(number), tuple(number % oracle.FIELDS[size][0] for size in sizes))
                self.assertIs(world.is_member(world.number(number)), True)


class Obeys(Case):
    def test_sizes_of_the_theory(self):
        odd = Theory(7, [Equation.read("where((x + x), 0, x, 0) = 0")])
        for theory, sizes, expected in (
                (Theory(4), (2, 4, 2), True), (Theory(4), (2, 3), False), (Theory(4), (3, 2), False), (Theory(4), (8,), False),
                (Theory(7), (2, 3, 4, 7, 7), True), (odd, (3, 7), True), (odd, (2, 3), False), (odd, (7, 7, 7, 4), False),
                (Theory(2), (2,) * 16, True), (Theory(7, [Equation(0, 1)]), (2,), False)):
            self.assertIs(World(*sizes).obeys(theory), expected)


class Values(Case):
    def test_by_hand(self):
        world = World(2, 4, 3)
        given = {"x": (1, 2, 2), "y": (1, 3, 0)}
        self.assertEqual(world.evaluate(X + Y, given), (0, 1, 2))
        self.assertEqual(world.evaluate(X * Y, given), (1, 1, 0))
        self.assertEqual(world.evaluate(X - Y, given), (0, 1, 2))
        self.assertEqual(world.evaluate(-X, given), (1, 2, 1))
        self.assertEqual(world.evaluate(X ** 2, given), (1, 3, 1))
        self.assertEqual(world.evaluate(Term.of(5), {}), (1, 1, 2))
        # The choice is made field by field.
        self.assertEqual(world.evaluate(Term.where(X, Y, 0, X), given), (0, 2, 2))
        self.assertEqual(type(world.evaluate(X, given)), tuple)

    def test_values_are_those_in_each_field(self):
        for seed in range(150):
            model = term_oracle.model_of(seed, 4)
            term = term_oracle.made(model)
            sizes = [ALL_SIZES[(seed * 7 + place * 5) % len(ALL_SIZES)] for place in range(1 + seed % 5)]
            given = {name: tuple((seed + 3 * place + 5 * at) % size for at, size in enumerate(sizes))
                     for place, name in enumerate(term_oracle.NAMES)}
            expected = tuple(term_oracle.value(model, size, {name: given[name][at] for name in given})
                             for at, size in enumerate(sizes))
            self.assertEqual(World(*sizes).evaluate(term, given), expected)

    def test_other_names_are_not_looked_at(self):
        for value in NO_NUMBERS + [5, X]:
            self.assertEqual(World(2, 4).evaluate(X + 1, {"y": value, "x": (1, 2), "where": value}), (0, 3))
            self.assertIs(World(2, 4).holds(Equation(X, "x"), {"y": value, "x": (1, 2)}), True)

    def test_unknown_names(self):
        world, term = World(2, 4), Term.read("where(c, a, b, a)")
        full = {"a": (0, 0), "b": (0, 0), "c": (0, 0)}
        self.refused(UnknownName, "a", world.evaluate, term, {})
        self.refused(UnknownName, "b", world.evaluate, term, {"a": (0, 0), "d": (0, 0)})
        self.refused(UnknownName, "c", world.evaluate, term, {"a": (0, 0), "b": (0, 0)})
        self.refused(UnknownName, "a", world.holds, Equation("b", "a"), {})
        self.refused(UnknownName, "b", world.holds, Equation("c", "b"), {"c": (0, 0)})
        # An unknown name goes ahead of an element that is wrong.
        self.refused(UnknownName, "c", world.evaluate, term, {"a": None, "b": (0, 0)})
        self.refused(UnknownName, "b", world.holds, Equation("a", "b"), {"a": None})
        self.assertEqual(world.evaluate(term, full), (0, 0))

    def test_wrong_elements(self):
        world, term = World(2, 4), Term.read("(b + (c * a))")
        for value in NO_NUMBERS + [0, 1, (2, 0), (0, 4), (0,), (0, 0, 0), [0, 0], (True, 0), (0, False), (0, -1)]:
            self.refused(InvalidElement, value, world.evaluate, term, {"c": value, "a": (1, 1), "b": (0, 0)})
            self.refused(InvalidElement, value, world.evaluate, term, {"c": None, "b": [1], "a": value})
            self.refused(InvalidElement, value, world.evaluate, term, {"c": 5, "b": value, "a": (1, 3)})
            self.refused(InvalidElement, value, world.holds, Equation("c", "a"), {"c": 5, "a": value, "b": 7})
            self.refused(InvalidElement, value, world.holds, Equation("c", "a"), {"c": value, "a": (0, 0), "b": 7})
            self.refused(InvalidElement, value, world.holds, Equation("x", "x"), {"x": value})

    def test_equations_hold_in_all_fields(self):
        world = World(2, 4)
        for x in itertools.product(range(2), range(4)):
            for y in itertools.product(range(2), range(4)):
                self.assertIs(world.holds(Equation(X, Y), {"x": x, "y": y}), x == y)
                self.assertIs(world.holds(Equation(X * X, X), {"x": x}), x[1] < 2)
        self.assertIs(world.holds(Equation(2, 0), {}), True)
        self.assertIs(World(2, 3).holds(Equation(2, 0), {}), False)
        self.assertIs(World(3, 2).holds(Equation(2, 0), {}), False)

    def test_equations_by_models(self):
        for seed in range(100):
            one, other = term_oracle.model_of(seed, 2), term_oracle.model_of(seed + 500, 2)
            sizes = [(2, 3), (4,), (2, 2, 2), (5, 2)][seed % 4]
            given = {name: tuple((seed + place * at) % size for at, size in enumerate(sizes))
                     for place, name in enumerate(term_oracle.NAMES)}
            expected = all(term_oracle.value(one, size, {name: given[name][at] for name in given})
                           == term_oracle.value(other, size, {name: given[name][at] for name in given})
                           for at, size in enumerate(sizes))
            equation = Equation(term_oracle.made(one), term_oracle.made(other))
            self.assertIs(World(*sizes).holds(equation, given), expected)

    def test_nothing_that_is_passed_is_changed(self):
        given = {"y": (1, 2), "x": (0, 3), "z": [None]}
        World(2, 4).evaluate(X * Y, given)
        World(2, 4).holds(Equation(X, Y), given)
        self.assertEqual(list(given.items()), [("y", (1, 2)), ("x", (0, 3)), ("z", [None])])


if __name__ == "__main__":
    unittest.main()
