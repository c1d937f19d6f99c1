import itertools
import unittest

from selfpower.equations import Equation
from selfpower.errors import Clash, DuplicateName, InvalidElement, InvalidName, InvalidSize, NothingLeft, TooMany, UnknownName
from selfpower.fields import Field
from selfpower.seekers import Seeker
from selfpower.terms import Term
from selfpower.theories import Theory
from tests import oracle
from tests.checks import NO_NAMES, NONE, ODD, Case
from tests.oracle import NO_NUMBERS
from tests.run_oracle import Maker

X, Y, Z, U = [Term.of(name) for name in "xyzu"]

FOUR = Theory(4)

SHAPES = [(Theory(4), 4, "xy"), (Theory(7), 7, "xyz"), (Theory(9), 9, "x"), (Theory(3), 3, "yx"), (Theory(64), 64, "zx"), (Theory(2), 2, "xyzu"),
          (Theory(64), 8, "xyz"), (Theory(61), 61, "x"), (Theory(4), 2, "x"), (Theory(5), 5, "xyzu"), (Theory(7), 4, "")]


class Plain:
    """A seeker once more: all rows, and all that was seen."""

    def __init__(self, size, names):
        self.field, self.names, self.seen = Field(size), list(names), []
        self.rows = list(itertools.product(range(size), repeat=len(names)))

    def value(self, term, row):
        return term.evaluate(self.field, dict(zip(self.names, row)))

    def left(self, more=()):
        return [row for row in self.rows if all(self.value(term, row) == value for term, value in self.seen + list(more))]

    def sure(self, term):
        found = {self.value(term, row) for row in self.left()}
        return found.pop() if len(found) == 1 else None


class Seekers(Case):
    def told(self, seeker):
        return [seeker.many, seeker.left(), seeker.seen(), seeker.sure(Term.of(1))]

    def test_drawn_rows_of_calls(self):
        clashes = sures = 0
        for seed in range(110):
            theory, size, names = SHAPES[seed % len(SHAPES)]
            maker = Maker(seed)
            seeker, plain = Seeker(theory, size, list(names)), Plain(size, names)
            for _ in range(12):
                term, value = maker.term(list(names)), maker.chance.randrange(size)
                kind = maker.chance.choice(["see", "see", "right", "sure", "undo"])
                if kind == "right":
                    value = plain.value(term, maker.chance.choice(plain.left()))
                if kind == "sure":
                    expected = plain.sure(term)
                    sures += expected is not None
                    self.assertEqual(seeker.sure(term), expected)
                elif kind == "undo" and plain.seen:
                    self.assertIsNone(seeker.undo())
                    plain.seen.pop()
                elif kind == "undo":
                    self.refuses(seeker, NothingLeft, [], seeker.undo)
                elif plain.left([(term, value)]):
                    self.assertIsNone(seeker.see(term, value))
                    plain.seen.append((term, value))
                else:
                    clashes += 1
                    self.refuses(seeker, Clash, [], seeker.see, term, value)
                self.assertEqual([seeker.left(), seeker.many], [plain.left(), len(plain.left())])
                self.assertEqual(seeker.seen(), [(term.text(), value) for term, value in plain.seen])
        self.assertGreater(min(clashes, sures), 50)

    def refuses(self, seeker, kind, told, call, *arguments):
        """The call raises this error and changes nothing."""
        before = self.told(seeker)
        with self.assertRaises(kind) as caught:
            call(*arguments)
        self.assertIs(type(caught.exception), kind)
        attributes = {key: value for key, value in vars(caught.exception).items() if key != "code"}
        self.assertEqual([repr(value) for value in attributes.values()], [repr(value) for value in told])
        self.assertEqual(caught.exception.code, kind.__name__)
        self.assertEqual(self.told(seeker), before)

    def test_by_hand(self):
        seeker = Seeker(Theory(7), 7, ["x", "y"])
        self.assertEqual([seeker.many, seeker.left()[:2], seeker.left()[-1], seeker.seen()], [49, [(0, 0), (0, 1)], (6, 6), []])
        self.assertIsNone(seeker.see(X + Y, 3))
        self.assertEqual([seeker.many, seeker.sure(X + Y), seeker.sure(X), seeker.sure(2 * X + 2 * Y + 1)], [7, 3, None, 0])
        seeker.see(X * Y, 2)
        self.assertEqual([seeker.left(), seeker.sure(X), seeker.sure((X - Y) ** 2)], [[(1, 2), (2, 1)], None, 1])
        self.refuses(seeker, Clash, [], seeker.see, X, 3)
        seeker.see(Term.where(X, 1, X, 0), 0)
        self.assertEqual([seeker.left(), seeker.sure(X), seeker.sure(Y), seeker.many], [[(2, 1)], 2, 1, 1])
        self.assertEqual(seeker.seen(), [("(x + y)", 3), ("(x * y)", 2), ("where(x, 1, x, 0)", 0)])
        for expected in (2, 7, 49):
            self.assertIsNone(seeker.undo())
            self.assertEqual(seeker.many, expected)
        self.refuses(seeker, NothingLeft, [], seeker.undo)

    def test_one_row_left_and_none(self):
        seeker = Seeker(FOUR, 4, ["x"])
        seeker.see(X, 2)
        self.assertEqual([seeker.left(), seeker.many, seeker.sure(X ** 2)], [[(2,)], 1, 3])
        for value in (0, 1, 3):
            self.refuses(seeker, Clash, [], seeker.see, X, value)
        seeker.see(X + 1, 3)
        self.assertEqual([seeker.many, len(seeker.seen())], [1, 2])

    def test_no_names(self):
        seeker = Seeker(FOUR, 4, [])
        self.assertEqual([seeker.many, seeker.left(), seeker.sure(Term.of(3))], [1, [()], 1])
        self.refuses(seeker, Clash, [], seeker.see, Term.of(1), 0)
        seeker.see(Term.of(3), 1)
        self.assertEqual([seeker.seen(), seeker.left()], [[("3", 1)], [()]])
        self.refuses(seeker, UnknownName, ["x"], seeker.sure, X)
        seeker.undo()
        self.refuses(seeker, NothingLeft, [], seeker.undo)

    def test_equal_things_seen_twice(self):
        seeker = Seeker(FOUR, 4, ["x"])
        for _ in range(3):
            seeker.see(X ** 3, 1)
        self.assertEqual([seeker.many, seeker.seen()], [3, [("(x ** 3)", 1)] * 3])
        seeker.undo()
        self.assertEqual([seeker.many, len(seeker.seen())], [3, 2])

    def test_terms_may_be_numbers_and_names(self):
        seeker = Seeker(FOUR, 4, ["x"])
        seeker.see("x", 3)
        self.assertEqual([seeker.seen(), seeker.sure("x"), seeker.sure(5), seeker.left()], [[("x", 3)], 3, 1, [(3,)]])

    def test_later_changes(self):
        names = ["x", "y"]
        seeker = Seeker(FOUR, 2, names)
        names.append("z")
        names[0] = "u"
        seeker.left().clear()
        seeker.see(X, 1)
        seeker.seen().clear()
        seeker.left().append((0, 0))
        self.assertEqual([seeker.left(), seeker.seen(), seeker.many], [[(1, 0), (1, 1)], [("x", 1)], 2])
        self.assertEqual(Seeker(FOUR, 2, ("x", "y")).left(), Seeker(FOUR, 2, ["x", "y"]).left())

    def test_the_interface(self):
        self.has_methods(Seeker, {"__init__": "(self, theory, size, names)", "left": "(self)", "see": "(self, term, value)",
                                  "sure": "(self, term)", "undo": "(self)", "seen": "(self)"})
        self.assertIsInstance(vars(Seeker)["many"], property)
        seeker = Seeker(theory=FOUR, size=4, names=["x"])
        seeker.see(term=X, value=2)
        self.assertEqual([seeker.sure(term=X), [type(row) for row in seeker.left()], [type(row) for row in seeker.seen()]], [2, [tuple], [tuple]])
        self.equals_nothing_of_another_kind(seeker, [FOUR, [(2,)]])
        with self.assertRaises(AttributeError):
            seeker.many = 1


class Refused67(Case):
    def test_names(self):
        for value in NO_NAMES:
            self.refused(InvalidName, value, Seeker, FOUR, 4, [value])
            self.refused(InvalidName, value, Seeker, FOUR, None, ["x", "x", value, 0])
        self.refused(DuplicateName, "x", Seeker, FOUR, 3, ["y", "x", "x", "y"])
        self.refused(DuplicateName, "y", Seeker, FOUR, 4, ["x", "y", "z", "u", "v", "y"])
        self.refused(TooMany, 4, Seeker, FOUR, 3, ["x", "y", "z", "u", "v"])
        self.refused(TooMany, 4, Seeker, FOUR, 2, ["x", "y", "z", "u", "v"])

    def test_sizes(self):
        for theory in (FOUR, ODD, NONE, Theory(64)):
            for value in NO_NUMBERS + [0, 1, -4, 6, 10 ** 30] + [size for size in oracle.ALL_SIZES if size not in theory.sizes]:
                self.refused(InvalidSize, value, Seeker, theory, value, ["x"])
                self.refused(InvalidSize, value, Seeker, theory, value, ["x", "y", "z", "u"])

    def test_too_many_rows(self):
        for theory, size, names in ((Theory(64), 64, "xyz"), (Theory(19), 19, "xyz"), (Theory(9), 9, "xyzu"), (Theory(27), 27, "xyz")):
            self.refused(TooMany, 6000, Seeker, theory, size, list(names))
        for theory, size, names in ((Theory(64), 64, "xy"), (Theory(17), 17, "xyz"), (Theory(8), 8, "xyzu"), (Theory(61), 61, "xy"), (Theory(16), 16, "xyz")):
            self.assertEqual(Seeker(theory, size, list(names)).many, size ** len(names))

    def test_seeing(self):
        for size in (2, 4):
            seeker = Seeker(FOUR, size, ["x", "z"])
            seeker.see(X, 1)
            for value in NO_NUMBERS + [-1, size, 10 ** 30, X, Equation(X, 1)]:
                self.refused(InvalidElement, value, seeker.see, Z, value)
                # A value that is no element goes ahead of a clash, an unknown name ahead of both.
                self.refused(InvalidElement, value, seeker.see, X * 0, value)
                self.refused(UnknownName, "u", seeker.see, X + Y + U, value)
            self.refused(UnknownName, "y", seeker.see, Y, 0)
            self.refused(UnknownName, "u", seeker.sure, Z + Y + U)
            self.assertEqual([seeker.left(), seeker.seen()], [[(1, item) for item in range(size)], [("x", 1)]])
            self.assertEqual([type(seeker.see), seeker.sure(X)], [type(seeker.left), 1])


if __name__ == "__main__":
    unittest.main()
