"""Programs that call each other in long rows, with repeats and tests on the way."""

import unittest
from unittest import mock

from selfpower import mappings
from selfpower.comparing import compare
from selfpower.points import count_points
from selfpower.programs import Program
from selfpower.tables import Table, tables_of
from selfpower.terms import Term
from selfpower.theories import Theory
from selfpower.ways import ways
from selfpower.worlds import World

X, Y = Term.of("x"), Term.of("y")

LONG = 240


def around(program, kind, times):
    """The steps that call a program with x and y, in one of several kinds of repeats."""
    call = ("call", ["x", "y"], program, ["x", "y"])
    if kind == 0:
        return [call]
    if kind == 1:
        return [("repeat", times, [call])]
    if kind == 2:
        return [("repeat", 1, [("repeat", times, [("repeat", 1, [call])])])]
    return [("repeat", 1, []), ("repeat", times, [call, ("repeat", 0, [call])])]


def chain(steps, many, kinds, times):
    """A program that does steps by a row of so many programs, with kinds of repeats in turn."""
    program = Program("p", ["x", "y"], steps, ["x", "y"])
    for place in range(many):
        program = Program("p", ["x", "y"], around(program, kinds[place % len(kinds)], times), ["x", "y"])
    return program


def how_often(many, kinds, times):
    """How often such a chain does its steps."""
    found = 1
    for place in range(many):
        found *= 1 if kinds[place % len(kinds)] == 0 else times
    return found


class Chains(unittest.TestCase):
    def test_each_kind_of_repeat(self):
        add = [("set", "x", X + Y)]
        for kinds in ([0], [1], [2], [3], [0, 1, 2, 3], [1, 1, 0, 3]):
            for times in (1, 2, 16, 17, 10 ** 30):
                often = how_often(LONG, kinds, times)
                expected = (((1 + 2 * often) % 7, (3 + often) % 11), (((2, 1))))
                self.assertEqual(World(7, 11).run(chain(add, LONG, kinds, times), (1, 3), (2, 1)), expected, (kinds, times))

    def test_no_times_in_the_middle(self):
        add = [("set", "x", X + 1)]
        low = chain(add, LONG, [1], 3)
        middle = Program("m", ["x", "y"], [("repeat", 0, [("call", ["x", "y"], low, ["x", "y"])]), ("set", "y", Y * 2)], ["x", "y"])
        program = chain([("call", ["x", "y"], middle, ["x", "y"])], LONG, [1, 0], 5)
        self.assertEqual(World(11).run(program, (4,), (1,)), ((4,), (pow(2, 5 ** (LONG // 2), 11),)))

    def test_tests_ahead_of_them_and_behind(self):
        program = chain([("set", "x", X + Y)], LONG, [1], 2)
        for _ in range(LONG):
            # A repeat calls no program with tests, so from here on the calls stand alone or in tests.
            program = Program("t", ["x", "y"], [("call", ["x", "y"], program, ["x", "y"])], ["x", "y"])
        asks = Program("a", ["x", "y"], [
            ("test", "x", 0, [("set", "x", 1)], [("call", ["x", "y"], program, ["x", 1])]), ("test", "x", "y", [], [("set", "y", 5)])],
            ["x", "y"])
        for _ in range(LONG):
            asks = Program("u", ["x", "y"], [("call", ["x", "y"], asks, ["x", "y"])], ["x", "y"])
        often = 2 ** LONG
        self.assertEqual(World(7, 5).trace(asks, (0, 0), (1, 1)), ((True, True), ((1, 1), (1, 1))))
        self.assertEqual(World(7, 5).trace(asks, (3, 1), (6, 2)),
                         ((False, False), (((3 + often) % 7, (1 + often) % 5), (5, 0))))
        self.assertEqual([way.answers for way in ways(Theory(3), asks)],
                         [way.answers for way in ways(Theory(3), flat_twin(often))])

    def test_tables_and_comparisons(self):
        theory = Theory(5)
        for kinds, times in (([1], 5), ([2, 0], 20), ([3], 10 ** 30), ([1, 2], 3)):
            program = chain([("set", "x", X + Y)], LONG, kinds, times)
            often = how_often(LONG, kinds, times)
            # A number and its remainder by 30 are the same in the fields of 2, 3 and 5 elements.
            expected = [Table.of(theory, ["x", "y"], X + Y * (often % 30)), Table.of(theory, ["x", "y"], Y)]
            self.assertEqual(tables_of(theory, program), expected)
            plain = Program("plain", ["x", "y"], [], [X + Y * (often % 30), "y"])
            self.assertEqual([compare(theory, program, plain).KIND, compare(theory, plain, program).KIND], ["same", "same"])
            other = Program("other", ["x", "y"], [], [X + Y * (often % 30) + Y, "y"])
            self.assertEqual(compare(theory, program, other).KIND, "parted")


class ManyRows(unittest.TestCase):
    """More rows at once than are looked for at once."""

    def test_tables_of_repeats_point_by_point(self):
        steps = [("set", "x", X * Y + 1), ("set", "y", X + Y)]
        for theory in (Theory(64), Theory(31), Theory(25)):
            for times in (3, 16, 17, 10 ** 30):
                inner = Program("inner", ["x", "y"], [("repeat", times, steps)], ["x", "y"])
                program = Program("p", ["x", "y"], [("repeat", times, [("call", ["x", "y"], inner, [Y, "x"])])], ["x", "y"])
                tables = tables_of(theory, program)
                self.assertGreaterEqual(max(count_points(size, 2) for size in theory.sizes), 300)
                for size, row in theory.points(2)[::7]:
                    found = World(size).run(program, *[(item,) for item in row])
                    self.assertEqual([table[(size, row)] for table in tables], [value for value, in found])

    def test_the_same_however_many_are_looked_for_at_once(self):
        program = Program("p", ["x", "y"], [("repeat", 10 ** 29, [("set", "x", X * Y + 1), ("set", "y", X + Y)])], ["x", "y"])
        expected = tables_of(Theory(16), program)
        for name, value in (("ROWS_AT_ONCE", 1), ("ROWS_AT_ONCE", 7), ("ROWS_AT_ONCE", 10 ** 6), ("MOST_KEPT", 0), ("MOST_KEPT", 50)):
            with mock.patch.object(mappings, name, value):
                self.assertEqual(tables_of(Theory(16), program), expected)


def flat_twin(often):
    """The program with two tests, with a term in the place of the long row of calls."""
    return Program("a", ["x", "y"], [
        ("test", "x", 0, [("set", "x", 1)], [("set", "x", X + often % 6), ("set", "y", 1)]), ("test", "x", "y", [], [])], ["x", "y"])


if __name__ == "__main__":
    unittest.main()
