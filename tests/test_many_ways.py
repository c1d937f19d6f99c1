"""The same question asked in many ways (promises 91 and 92): all of them agree."""

import itertools
import unittest

from selfpower.books import Book
from selfpower.comparing import compare
from selfpower.deriving import Broken, any_follows, follows
from selfpower.desk import Desk
from selfpower.equations import Equation
from selfpower.errors import Clash
from selfpower.fields import Field
from selfpower.middles import middle
from selfpower.pages import page_text, read_page
from selfpower.programs import Program
from selfpower.seekers import Seeker
from selfpower.shapes import Shape
from selfpower.solving import solutions, solve
from selfpower.tables import Table
from selfpower.telling import told_by
from selfpower.terms import Term
from selfpower.theories import Theory
from selfpower.ways import ways
from selfpower.worlds import World
from tests.checks import NONE, ODD
from tests.run_oracle import Maker

X, Y = Term.of("x"), Term.of("y")

THEORIES = [Theory(2), Theory(3), Theory(4), Theory(5), Theory(7), Theory(8), Theory(9), Theory(22), NONE, ODD, Theory(64, [Equation(X ** 4, X)]),
            Theory(16), Theory(31)]

ALWAYS = [Equation(X * Y, Y * X), Equation((X + Y) ** 2, X * X + 2 * X * Y + Y * Y), Equation(X, X), Equation(Term.where(X, Y, X, 0), Term.where(X, Y, Y, 0)),
          Equation(X - X, 0), Equation(Term.where(X, X, 1, Y), 1), Equation(3, Term.of(1) + 2), Equation(-X, 0 - X)]

SOMETIMES = [Equation(X + X, 0), Equation(X ** 3, X), Equation(X ** 4, X), Equation(X ** 8, X), Equation((X + Y) ** 3, X ** 3 + Y ** 3), Equation(2, 0),
             Equation(X ** 2, X), Equation(X ** 2 * Y, X * Y ** 2), Equation(Term.where(X ** 2, X, 0, 1), 0), Equation(X ** 16, X), Equation(6, 0), Equation(X, Y),
             Equation(X, 0), Equation(1, 0), Equation(X ** 5, X), Equation(X * (X ** 4 - X), 0)]


def equations(seed):
    maker = Maker(seed)
    return [Equation(maker.term(["x", "y"]), maker.term(["x", "y"], 2)) for _ in range(3)]


def rows(size, many):
    return itertools.product(range(size), repeat=many)


def by_all_elements(theory, equation):
    """Whether an equation holds for all elements of all fields of a theory."""
    names = equation.names()
    return all(equation.holds(Field(size), dict(zip(names, row))) for size in theory.sizes for row in rows(size, len(names)))


def by_many_ways(theory, equation):
    """A dict from the name of a way to whether the equation holds in all worlds, as this way tells."""
    names = equation.names()
    one, other = [Program(name, names, [], [term]) for name, term in (("one", equation.one), ("other", equation.other))]
    tables = [Table.of(theory, names, term) for term in (equation.one, equation.other)]
    asks = Program("asks", names, [("test", equation.one, equation.other, [], [])], [1])
    stricter = theory.with_axiom(equation)
    report = told_by(theory, names, [], Term.where(equation.one, equation.other, 0, 1))
    return {
        "follows": bool(follows(theory, [], equation)),
        "from itself": bool(follows(theory, [equation], equation)) and bool(follows(theory, [], equation)),
        "any_follows": any_follows(theory, [], equation)[0] == 0,
        "any of two": any_follows(theory, [], Equation(0, 1), equation)[0] == (1 if theory.sizes else 0),
        "compare": bool(compare(theory, one, other)), "turned about": bool(compare(theory, other, one)),
        "tables": tables[0] == tables[1], "zeros": (tables[0] - tables[1]).zeros() == theory.points(len(names)),
        "axiom": stricter.sizes == theory.sizes, "gives": theory.gives(stricter), "given": [stricter.gives(theory)] == [True] and theory.gives(stricter),
        "middle": not isinstance(middle(theory, [], equation), Broken),
        "ways": [way.answers for way in ways(theory, asks)] == ([(True,)] if theory.sizes else []),
        "seekers": [Seeker(theory, size, names).sure(equation.one - equation.other) for size in theory.sizes] == [0] * len(theory.sizes),
        "shapes": Shape([(size, 1) for size in theory.sizes]).solutions([equation], names) == [(size, size ** len(names), 1) for size in theory.sizes],
        "worlds": all(World(size).holds(equation, {name: (item,) for name, item in zip(names, row)})
                      for size in theory.sizes for row in rows(size, len(names))),
        "told_by": bool(report) and not any(report.table.entries()),
        "solve": solve(theory, [equation], names, ["u"]).KIND == "solved",
    }


class Equations91(unittest.TestCase):
    def test_all_ways_agree(self):
        counts = {True: 0, False: 0}
        for at, theory in enumerate(THEORIES):
            for equation in ALWAYS + SOMETIMES + equations(at):
                if len(equation.names()) < 2 or len(theory.points(2)) < 700:
                    expected = by_all_elements(theory, equation)
                    found = by_many_ways(theory, equation)
                    self.assertEqual(found, dict.fromkeys(found, expected), (theory, equation))
                    counts[expected] += 1
        self.assertGreater(min(counts.values()), 100)

    def test_equations_that_always_hold(self):
        for theory in THEORIES:
            for equation in ALWAYS:
                self.assertTrue(follows(theory, [], equation))

    def test_worlds_of_several_sizes(self):
        for theory in (Theory(4), Theory(7), Theory(22)):
            for equation in SOMETIMES:
                answer = follows(theory, [], equation)
                world = World(*theory.sizes)
                if answer:
                    given = {name: tuple((3 * size) // 4 for size in theory.sizes) for name in equation.names()}
                    self.assertTrue(world.holds(equation, given))
                else:
                    # The elements that break it, beside others, break it there, too.
                    given = {name: element + (0,) * len(theory.sizes) for name, element in answer.given().items()}
                    self.assertFalse((answer.world * world).holds(equation, given))


FACTS = [[], [Equation(X * X, 1)], [Equation(X * Y, 1)], [Equation(X * X, -1)], [Equation(X * X + X, 1), Equation(Y, X ** 2)], [Equation(X + Y, 0), Equation(X * Y, 1)],
         [Equation(2, 0)], [Equation(0, 1)], [Equation(X ** 2, X), Equation(Y ** 2, Y)], [Equation(X ** 3, 2)], [Equation(Term.where(X, Y, 0, 1), 0)]]


class Facts92(unittest.TestCase):
    def test_all_ways_agree(self):
        solved = 0
        for at, theory in enumerate(THEORIES):
            for facts in FACTS + [equations(seed)[:2] for seed in (at, at + 100)]:
                if len(theory.points(2)) < 700:
                    solved += self.judge(theory, facts)
        self.assertGreater(solved, 40)

    def judge(self, theory, facts):
        """All ways tell the same of the facts; returns whether they can be kept in all worlds."""
        names = ["x", "y"]
        found = {}
        for size in theory.sizes:
            found[size] = [row for row in rows(size, 2) if all(fact.holds(Field(size), dict(zip(names, row))) for fact in facts)]
            self.assertEqual(solutions(theory, facts, [], names, size, ()), found[size])
            self.seek(theory, facts, size, found[size])
            for x in (0, size - 1):
                self.assertEqual(solutions(theory, facts, ["x"], ["y"], size, (x,)), [(y,) for first, y in found[size] if first == x])
        shape = Shape([(size, 5) for size in theory.sizes])
        self.assertEqual(shape.solutions(facts, names), [(size, len(found[size]), 5) for size in theory.sizes])
        book = Book(theory.power)
        book.run(*[("axiom", axiom) for axiom in theory.axioms()], *[("fact", name, fact) for name, fact in zip("pq", facts)])
        self.assertEqual(book.theory, theory)
        read = read_page(page_text(book))
        for other in (book, read, book.twin()):
            self.ask(theory, facts, other, found)
        return bool(theory.sizes) and bool(solve(theory, facts, [], names))

    def seek(self, theory, facts, size, expected):
        """A seeker that sees that all facts hold has the same rows left."""
        seeker = Seeker(theory, size, ["x", "y"])
        try:
            for fact in facts:
                seeker.see(fact.one - fact.other, 0)
        except Clash:
            self.assertEqual(expected, [])
        else:
            self.assertEqual([seeker.left(), seeker.many], [expected, len(expected)])
            self.assertGreater(len(expected), 0)
            for fact in facts:
                self.assertEqual(seeker.sure(Term.where(fact.one, fact.other, 1, 0)), 1)

    def ask(self, theory, facts, book, found):
        names = ["x", "y"]
        wanted, solution = solve(theory, facts, [], names), book.solve([], names)
        self.assertEqual([solution.KIND, solution.answer()], [wanted.KIND, wanted.answer()])
        primes = [size for size, _ in theory.points(0)]
        self.assertEqual([bool(solution), book.facts()], [all(found[prime] for prime in primes), facts])
        for place, prime in enumerate(primes):
            if found[prime]:
                self.assertIn(tuple(solution.answer()[name].entries()[place] for name in names), found[prime])
            if not solution:
                self.assertEqual(solution.condition.entries()[place], 0 if found[prime] else 1)
        if solution:
            self.reach(theory, solution.general(), found)
        desk = Desk(book)
        never = all(rows == [] for rows in found.values())
        for goal, expected in ((Equation(0, 1), never), (Equation(X, Y), all(x == y for rows in found.values() for x, y in rows)),
                               (Equation(X, 0), all(x == 0 for rows in found.values() for x, _ in rows))):
            self.assertEqual([bool(book.follows(goal)), bool(follows(theory, facts, goal)), desk(f"follows {goal.text()}")],
                             [expected, expected, "yes" if expected else "no"])
            self.assertEqual(isinstance(middle(theory, facts, goal), Broken), not expected)

    def reach(self, theory, general, found):
        """The values of the general solution are all solutions."""
        for size in theory.sizes:
            reached = {tuple(general[name].lookup(size, row) for name in "xy") for row in rows(size, 2)}
            self.assertEqual(sorted(reached), found[size])


if __name__ == "__main__":
    unittest.main()
