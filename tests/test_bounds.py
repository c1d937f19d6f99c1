"""Bounds that are met exactly (promise 85): at the limit all is well, and one more is refused at each entry."""

import unittest

from selfpower.books import Book
from selfpower.comparing import compare
from selfpower.deriving import any_follows, follows
from selfpower.desk import Desk
from selfpower.equations import Equation
from selfpower.errors import InvalidNumber, TooDeep, TooMany
from selfpower.middles import middle
from selfpower.points import points_of
from selfpower.programs import Program
from selfpower.seekers import Seeker
from selfpower.shapes import Shape
from selfpower.solving import solutions, solve
from selfpower.tables import Table, count_tables, tables_of
from selfpower.telling import least_sets, told_by
from selfpower.terms import Term
from selfpower.theories import Theory
from selfpower.ways import ways
from selfpower.worlds import World
from selfpower.writing import MOST_WRITTEN, term_of
from tests.checks import NEAR, OVER, Case

X, Y, Z, U = [Term.of(name) for name in "xyzu"]

NAMES = list("xyzu")


def long(many):
    """A term with so many parts: the sum of two terms with half as many, and opposites of it."""
    if many < 3:
        return X if many == 1 else -X
    half = (many - 1) // 2
    term = long(half) + long(half)
    return -term if many % 2 == 0 else term


def deep(many):
    """A term that is nested so deep."""
    term = X
    for _ in range(many - 1):
        term = term + 1
    return term


def is_many(term):
    """How many parts a term has, by its text."""
    text = term.text()
    signs = sum(text.count(sign) for sign in (" + ", "-", " * ", " ** ", "where"))
    return signs + sum(text.count(sign) for sign in "xyzu1")


class Parts(Case):
    def test_the_terms_of_this_test(self):
        for many in (1, 2, 3, 4, 5, 9999, 40000):
            self.assertEqual(is_many(long(many)), many)
        for many in (1, 2, 59, 60):
            self.assertEqual(deep(many).depth(), many)

    def test_40000_parts_and_one_more(self):
        for make in (lambda many: long(many - 2) + 1, lambda many: 1 + long(many - 2), lambda many: -long(many - 1), lambda many: long(many - 1) ** 3,
                     lambda many: long(many - 2) * Y, lambda many: Y - long(many - 2), lambda many: long(many - 1).raised(3 * 10 ** 29),
                     lambda many: Term.where(long(many - 4), 1, "x", Y), lambda many: Term.where(1, "x", Y, long(many - 4)),
                     lambda many: (X + Y).filled(y=long(many - 2)), lambda many: (X + Y + X).filled(x=long((many - 3) // 2), y=long(many - 2 - 2 * ((many - 3) // 2))),
                     lambda many: Term.read(f"({long(many - 2).text()} + 1)"), lambda many: Term.read("-" + long(many - 1).text()),
                     lambda many: Equation(long(many - 1) ** 2, 0).one, lambda many: Equation(0, -long(many - 1)).other,
                     lambda many: Equation.read(f"x = -{long(many - 1).text()}").other, lambda many: Equation.read(f"-{long(many - 1).text()} = x").one):
            term = make(40000)
            self.assertEqual(is_many(term), 40000)
            self.refused(TooMany, 40000, make, 40001)

    def test_60_deep_and_61(self):
        for make in (lambda many: deep(many - 1) + 1, lambda many: 1 - deep(many - 1), lambda many: deep(many - 1) * deep(many - 1), lambda many: -deep(many - 1),
                     lambda many: deep(many - 1) ** 0, lambda many: deep(many - 1).raised(7), lambda many: Term.where(1, 2, deep(many - 1), 3),
                     lambda many: (X + Y).filled(x=1, y=deep(many - 1)), lambda many: deep(many - 1).filled(x=X * X), lambda many: Term.read("-" * (many - 1) + "x"),
                     lambda many: Term.read("(1 + " * (many - 1) + "x" + ")" * (many - 1)), lambda many: Term.read("where(1, " * (many - 1) + "x" + ", 1, 1)" * (many - 1)),
                     lambda many: Equation.read("x = " + "-" * (many - 1) + "x").other):
            self.assertEqual(make(60).depth(), 60)
            self.refused(TooDeep, 60, make, 61)


class Points(Case):
    def entries(self, theory):
        """Each entry that needs the points of four names, as a call without arguments."""
        facts, goal = [Equation(X + Y, Z + U)], Equation(X, Z + U - Y)
        wide, twin = Program("wide", NAMES, [], [X + Y]), Program("twin", NAMES, [("set", "x", Y + X)], [X])
        asks = Program("asks", NAMES, [("test", X, "y", [], [])], [1])
        book = Book(theory.power)
        book.run(*[("axiom", axiom) for axiom in theory.axioms()], ("program", wide), ("program", twin), ("fact", "f", facts[0]))
        table = None if theory == OVER else [0] * len(theory.points(4))
        return [
            lambda: len(theory.points(4)), lambda: len(points_of(theory.sizes, 4)), lambda: Table(theory, NAMES, table or []).zeros()[0],
            lambda: Table.of(theory, NAMES, X + U).variables, lambda: Table.ranked(theory, NAMES, 0).rank, lambda: count_tables(theory, 4) > 0,
            lambda: len(tables_of(theory, wide)), lambda: len(ways(theory, asks)), lambda: compare(theory, wide, twin).KIND, lambda: follows(theory, facts, goal).KIND,
            lambda: any_follows(theory, facts, Equation(X, 0), goal)[0], lambda: solve(theory, facts, ["x", "y"], ["z", "u"]).KIND,
            lambda: len(solutions(theory, facts, ["x", "y"], ["z", "u"], 2, (0, 1))), lambda: told_by(theory, NAMES, [X], X).KIND,
            lambda: told_by(theory, ["x"], [X, X, X, X], X).KIND, lambda: least_sets(theory, NAMES, [X, Y], X + Y), lambda: type(middle(theory, facts, goal)).__name__,
            lambda: book.same("wide", "twin").KIND, lambda: book.follows(goal).KIND, lambda: book.solve(["x", "y"], ["z", "u"]).KIND]

    def test_near_the_limit(self):
        # No theory has exactly 6000 points; this one has 5858, the most of all that may be.
        expected = [5858, 5858, (2, (0, 0, 0, 0)), tuple(NAMES), 0, True, 1, 2, "same", "derived", 1, "solved", 2, "told", "told", [(0, 1)], "Between", "same", "derived", "solved"]
        self.assertEqual([call() for call in self.entries(NEAR)], expected)

    def test_beyond_the_limit(self):
        for call in self.entries(OVER):
            self.refused(TooMany, 6000, call)
        desk = Desk(Book(61))
        self.assertEqual([desk("axiom (x + y) = (z + x)"), desk("axiom (x + y) = z"), desk("follows (x + y) = z"), desk("follows x = 1")],
                         ["error TooMany", "error TooMany", "error TooMany", "no"])

    def test_axioms_count_with_all_sizes_of_the_power(self):
        # Three names of a theory with 64 elements have too many points, also if an axiom leaves two elements.
        two = Theory(64, [Equation(X * X, X)])
        self.assertEqual([two.sizes, len(two.points(4))], [(2,), 16])
        self.refused(TooMany, 6000, two.with_axiom, Equation(X + Y, Z))
        self.assertEqual(follows(two, [], Equation(X * Y * Z * U, U * X * Y * Z)).KIND, "derived")

    def test_rows_of_seekers(self):
        self.assertEqual(Seeker(Theory(17), 17, ["x", "y", "z"]).many, 4913)
        self.refused(TooMany, 6000, Seeker, Theory(19), 19, ["x", "y", "z"])

    def test_shapes_have_no_such_limit(self):
        self.assertEqual(Shape([(64, 1), (61, 10 ** 30)]).solutions([], ["x", "y"]), [(61, 3721, 10 ** 30), (64, 4096, 1)])


class Others(Case):
    def test_tables_of_100_points_and_of_101(self):
        self.assertEqual(MOST_WRITTEN, 100)
        seen = set()
        for sizes, many in (((3, 5, 31, 61), 100), ((2, 7, 31, 61), 101)):
            keep = Term.of(0)
            for size in (2, 3, 4, 5, 7, 11, 13, 16, 31, 61):
                # A term that is 1 in the fields of elements that are to go, at an element that makes their size.
                if size not in sizes:
                    prime = 2 if size in (4, 16) else size
                    hit = Term.where(prime, 0, 1, 0) if size == prime else Term.where(prime, 0, Term.where(X ** size, X, Term.where(X ** prime, X, 0, 1), 0), 0)
                    keep = Term.where(hit, 1, 1, keep)
            theory = Theory(61, [Equation(keep, 0)])
            self.assertEqual([theory.sizes, len(theory.points(1))], [sizes, many])
            table = Table.of(theory, ["x"], X ** 3 + 1)
            if many > 100:
                self.refused(TooMany, 100, term_of, table)
            else:
                self.assertEqual(Table.of(theory, ["x"], term_of(table)), table)
            seen.add(many)
        self.assertEqual(seen, {100, 101})

    def test_16_goals_and_17(self):
        goal, right = Equation(X, 0), Equation(X, X)
        for many in (1, 15, 16):
            index, broken = any_follows(Theory(2), [], *[goal] * many)
            self.assertEqual([index, broken.KIND], [None, "broken"])
            self.assertEqual(any_follows(Theory(2), [], *[goal] * (many - 1), right)[0], many - 1)
        for many in (0, 17, 18, 40):
            self.refused(InvalidNumber, many, any_follows, Theory(2), [], *[right] * many)

    def test_16_sizes_and_17(self):
        self.assertEqual([len(World(*[2] * 16)), len(World(*[2] * 9) * World(*[4] * 7))], [16, 16])
        self.refused(TooMany, 16, World, *[2] * 17)
        self.refused(TooMany, 16, World(*[2] * 9).__mul__, World(*[4] * 8))

    def test_counts_of_shapes(self):
        for count in (1, 10 ** 30):
            self.assertEqual(Shape([(2, count)]).count(2), count)
        for count in (0, 10 ** 30 + 1):
            self.refused(InvalidNumber, count, Shape, [(2, count)])


if __name__ == "__main__":
    unittest.main()
