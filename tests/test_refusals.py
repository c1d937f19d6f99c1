"""Arguments that are wrong twice, at each entry of the interface (promise 86): the error that is listed first is raised."""

import unittest

from selfpower import errors
from selfpower.books import Book
from selfpower.comparing import Same, compare
from selfpower.deriving import any_follows, follows
from selfpower.desk import Desk
from selfpower.equations import Equation
from selfpower.fields import Field, field_sizes
from selfpower.middles import middle
from selfpower.pages import read_page
from selfpower.points import led, point_of, points_of
from selfpower.programs import Program
from selfpower.seekers import Seeker
from selfpower.shapes import Shape, embed
from selfpower.solving import solutions, solve
from selfpower.tables import Table, count_tables, tables_of
from selfpower.telling import least_sets, told_by
from selfpower.terms import Term
from selfpower.theories import Theory
from selfpower.ways import ways
from selfpower.worlds import World
from selfpower.writing import term_of
from tests.checks import OVER, Case

X, Y, Z, U, V, W = [Term.of(name) for name in "xyzuvw"]

FOUR = Theory(4)

FLAT = Program("flat", ["x"], [], ["x"])
WIDE = Program("wide", ["x", "y", "z", "u"], [], ["x"])
WIDE_ASKS = Program("asks", ["x", "y", "z", "u"], [("test", "x", 0, [], [])], ["x"])
ASKS = Program("asks", ["x"], [("test", "x", 0, [], [])], ["x"])

DEEP = Term.read("-" * 59 + "x")
# It has 39967 parts.
LONG = None
for doubled in (14, 11, 10, 9, 4):
    part = X
    for _ in range(doubled):
        part = part + part
    LONG = part if LONG is None else LONG + part

FIVE = ["x", "y", "z", "u", "v"]
TABLE = Table.of(FOUR, ["x"], X)
WORLD = World(2, 4)
FACT = Equation(X + Y, Z + U)

SMALL = [
    ("InvalidPower", 65, field_sizes, (65,)), ("InvalidSize", None, Field, (None,)), ("InvalidSize", 8, Field(16).embedding, (8,)),
    ("InvalidSize", 6, point_of, (6, (9, None))), ("InvalidElement", 9, point_of, (4, (9, None))), ("InvalidSize", 6, led, (6, (9,), None)),
    ("InvalidElement", 9, led, (4, (1, 9, None), 8)), ("InvalidElement", 3, led, (4, (1,), 3)), ("TooMany", 6000, points_of, ([64, 2], 4)),
]

TERMS = [
    ("InvalidTerm", None, Term.where, (None, "X", X, LONG)), ("InvalidTerm", "X", Term.where, (DEEP, "X", None, X)),
    ("InvalidTerm", True, Term.where, (DEEP, LONG, True, None)), ("InvalidTerm", [1], Term.where, (DEEP, LONG, LONG, [1])),
    ("TooDeep", 60, Term.where, (DEEP, LONG, LONG, 1)), ("TooDeep", 60, Term.where, (DEEP, 1, 1, 1)), ("TooMany", 40000, Term.where, (X, LONG, LONG, 1)),
    ("InvalidTerm", "y", DEEP.__add__, ("y",)), ("InvalidTerm", None, DEEP.__rmul__, (None,)), ("TooDeep", 60, DEEP.__add__, (LONG,)),
    ("TooMany", 40000, LONG.__mul__, (LONG,)), ("InvalidNumber", -1, DEEP.raised, (-1,)), ("InvalidNumber", True, DEEP.__pow__, (True,)),
    ("TooDeep", 60, DEEP.raised, (3,)), ("InvalidText", 0, Term.read, ("(x + " + "-" * 58 + "X)",)), ("TooDeep", 60, Term.read, ("-" * 60 + "X",)),
    ("UnknownName", "x", (X + Y).evaluate, (Field(2), {"z": 7})), ("InvalidTerm", None, Equation, (None, [1])), ("InvalidTerm", [1], Equation, (DEEP, [1])),
    ("InvalidText", 0, Equation.read, ("x =",)), ("InvalidText", 0, Equation.read, ("X = " + "-" * 60 + "x",)), ("TooDeep", 60, Equation.read, ("-" * 60 + "x = X",)),
    ("UnknownName", "y", Equation(Y, X).holds, (Field(2), {})), ("UnknownName", "x", Equation(X, Y).holds, (Field(2), {})),
    ("InvalidPower", 1, Theory, (1, [None, Equation(X + Y + Z + U, V)])), ("InvalidEquation", None, Theory, (61, [Equation(X + Y + Z + U, V), None])),
    ("TooMany", 6000, Theory, (61, [Equation(X + Y + Z + U, V)])), ("InvalidText", 1, Theory.read, ("power 3\naxiom\naxiom x",)),
    ("InvalidText", 0, Theory.read, ("power 65\naxiom",)), ("InvalidText", 2, Theory.read, ("power 61\naxiom ((x + y) + (z + u)) = 0\naxiom",)),
    ("TooMany", 6000, Theory.read, ("power 61\naxiom ((x + y) + (z + u)) = 0",)), ("InvalidSize", True, FOUR.field, (True,)),
    ("InvalidEquation", 0, Theory(61).with_axiom, (0,)), ("UnknownIndex", 0, FOUR.without, (0,)),
]

PROGRAMS = [
    ("InvalidName", None, Program, (None, ["X", "x", "x"], [0], [])), ("InvalidName", "X", Program, ("p", ["x", "x", "X"], [0], [])),
    ("DuplicateName", "x", Program, ("p", FIVE + ["x"], [0], [])), ("TooMany", 4, Program, ("p", FIVE, [0], [])),
    ("InvalidStep", (0,), Program, ("p", ["x"], [0], [None])), ("InvalidStep", (61,), Program, ("p", ["x"], [("set", "x", 1)] * 61 + [0], [None])),
    ("InvalidTerm", None, Program, ("p", ["x"], [("set", "x", 1)] * 61, ["x"] * 7 + [None])),
    ("InvalidNumber", 7, Program, ("p", ["x"], [("set", "x", 1)] * 61, ["x"] * 7)), ("InvalidNumber", 0, Program, ("p", ["x"], [("set", "x", 1)] * 61, [])),
    ("TooMany", 60, Program, ("p", ["x"], [("test", "x", 0, [], [])] * 61, ["x"])), ("TooMany", 6, Program, ("p", ["x"], [("test", "x", 0, [], [])] * 60, ["x"])),
    ("InvalidStep", (0,), Program, ("p", ["x"], [("repeat", -1, [0])], ["x"])), ("InvalidStep", (0, 1), Program, ("p", ["x"], [("repeat", 1, [("test", "x", 1, [], []), 0])], ["x"])),
    ("InvalidText", 0, Program.read, ("program 1\ninputs 1",)), ("InvalidText", 2, Program.read, ("program p\ninputs x x\noutputs X",)),
    ("DuplicateName", "x", Program.read, ("program p\ninputs x x\noutputs y",)),
]

WORLDS = [
    ("InvalidSize", 6, World, (2,) * 17 + (6, None)), ("InvalidNumber", 0, World, ()), ("TooMany", 16, World, (2,) * 17),
    ("UnknownName", "y", WORLD.evaluate, (X + Y, {"x": None})), ("InvalidElement", 1, WORLD.evaluate, (X + Y, {"y": None, "x": 1})),
    ("UnknownName", "y", WORLD.holds, (Equation(X, Y), {"x": None})), ("InvalidElement", 1, WORLD.holds, (Equation(Y, X), {"y": None, "x": 1})),
    ("InvalidNumber", 2, WORLD.run, (FLAT, None, None)), ("InvalidElement", 0, WORLD.trace, (WIDE, (0, 0), 0, None, 1)),
    ("TooMany", 16, World(*[2] * 9).__mul__, (World(*[3] * 8),)),
]

TABLES = [
    ("InvalidName", "X", Table, (OVER, FIVE + ["x", "X"], [None])), ("DuplicateName", "x", Table, (OVER, FIVE + ["x"], [None])),
    ("TooMany", 4, Table, (OVER, FIVE, [None])), ("TooMany", 6000, Table, (OVER, FIVE[:4], [None])), ("InvalidNumber", 4, Table, (FOUR, ["x"], [0, 0, None, 9])),
    ("InvalidElement", 2, Table, (FOUR, ["x"], [0, 2, None])), ("InvalidSize", 8, TABLE.lookup, (8, (9, 9))), ("InvalidElement", 9, TABLE.lookup, (4, (9, None))),
    ("InvalidNumber", 2, TABLE.lookup, (4, (1, 1))), ("UnknownPoint", 0, TABLE.put, (0, None)), ("InvalidElement", None, TABLE.put, ((4, (2,)), None)),
    ("UnknownPoint", (4, (3,)), TABLE.__setitem__, ((4, (3,)), 9)), ("InvalidName", 1, Table.of, (OVER, ["x", "x", 1], V)),
    ("DuplicateName", "x", Table.of, (OVER, ["x", "x", "y", "z", "u"], V)), ("TooMany", 4, Table.of, (OVER, FIVE, W)),
    ("UnknownName", "v", Table.of, (OVER, FIVE[:4], W + V)), ("TooMany", 6000, Table.of, (OVER, FIVE[:4], X)), ("TooMany", 4, Table.ranked, (OVER, FIVE, None)),
    ("TooMany", 6000, Table.ranked, (OVER, FIVE[:4], None)), ("InvalidNumber", -1, Table.ranked, (FOUR, ["x"], -1)), ("InvalidTerm", "x", TABLE.__add__, ("x",)),
    ("InvalidNumber", "x", TABLE.raised, ("x",)), ("TooMany", 6000, tables_of, (OVER, WIDE)), ("TooMany", 6000, count_tables, (OVER, 4)),
    ("TooMany", 100, term_of, (Table.of(Theory(7), ["x", "y", "z"], X),)),
]

QUESTIONS = [
    ("TooMany", 6000, ways, (OVER, WIDE)), ("TooMany", 6000, compare, (OVER, WIDE, WIDE_ASKS)), ("TooMany", 6000, Same(1).holds, (OVER, WIDE, WIDE)),
    ("TooMany", 4, follows, (OVER, [FACT], Equation(V, V))), ("TooMany", 6000, follows, (OVER, [FACT], Equation(1, 0))),
    ("InvalidNumber", 0, any_follows, (OVER, [FACT, Equation(V, 0)])), ("InvalidNumber", 17, any_follows, (OVER, [FACT]) + (Equation(V, 0),) * 17),
    ("TooMany", 4, any_follows, (OVER, [FACT], Equation(1, 1), Equation(V, 0))), ("TooMany", 6000, any_follows, (OVER, [FACT], Equation(1, 1))),
    ("InvalidName", 0, solve, (OVER, [FACT], ["x", "x"], [0])), ("InvalidName", 0, solve, (OVER, [FACT], ["x", 0, "x"], [])),
    ("DuplicateName", "x", solve, (OVER, [FACT], ["x", "x"], [])), ("DuplicateName", "x", solve, (OVER, [FACT], ["y", "x"], ["x"] + FIVE)),
    ("InvalidNumber", 0, solve, (OVER, [FACT], FIVE, [])), ("TooMany", 4, solve, (OVER, [Equation(W, 0)], ["x"], FIVE[1:])),
    ("UnknownName", "v", solve, (OVER, [Equation(W, V)], ["x"], FIVE[1:4])), ("TooMany", 6000, solve, (OVER, [FACT], ["x"], FIVE[1:4])),
    ("TooMany", 6000, solutions, (OVER, [FACT], ["x"], FIVE[1:4], 6, (None,))), ("InvalidSize", 6, solutions, (FOUR, [], ["a"], ["x"], 6, (None, 9))),
    ("InvalidElement", 9, solutions, (FOUR, [], ["a"], ["x"], 4, (1, 9))), ("InvalidNumber", 2, solutions, (FOUR, [], ["a"], ["x"], 4, (1, 1))),
    ("UnknownName", "x", solutions, (FOUR, [Equation(X, Y)], ["a"], ["b"], 6, (None,))),
]

LATER = [
    ("InvalidName", 0, told_by, (OVER, FIVE + ["x", 0], [W] * 5, W)), ("DuplicateName", "x", told_by, (OVER, FIVE + ["x"], [W] * 5, W)),
    ("TooMany", 4, told_by, (OVER, FIVE, [W] * 4, W)), ("TooMany", 4, told_by, (OVER, FIVE[:4], [W] * 5, W)), ("UnknownName", "w", told_by, (OVER, FIVE[:4], [X, W], V)),
    ("UnknownName", "v", told_by, (OVER, FIVE[:4], [X, X, X, X], V)), ("TooMany", 6000, told_by, (OVER, FIVE[:4], [X], X)),
    ("TooMany", 6000, told_by, (OVER, [], [Term.of(0)] * 4, Term.of(0))),
    ("InvalidName", 0, least_sets, (OVER, FIVE + ["x", 0], [W] * 9, W)), ("TooMany", 4, least_sets, (OVER, FIVE, [W] * 9, W)),
    ("TooMany", 8, least_sets, (OVER, FIVE[:4], [W] * 9, W)), ("UnknownName", "w", least_sets, (OVER, FIVE[:4], [W] * 8, W)),
    ("TooMany", 6000, least_sets, (OVER, FIVE[:4], [], X)), ("TooMany", 4, middle, (OVER, [FACT], Equation(V, V))), ("TooMany", 6000, middle, (OVER, [FACT], Equation(0, 0))),
    ("InvalidSize", 6, Shape, ([(2, 0), (6, 1), (2, 1)],)), ("InvalidSize", 2, Shape, ([(2, 0), (2, 1), (6, 1)],)), ("InvalidNumber", 0, Shape, ([(2, 0), (3, None)],)),
    ("InvalidName", 0, Seeker, (FOUR, 6, FIVE + ["x", 0])), ("DuplicateName", "x", Seeker, (FOUR, 6, FIVE + ["x"])), ("TooMany", 4, Seeker, (FOUR, 6, FIVE)),
    ("InvalidSize", 6, Seeker, (Theory(64), 6, FIVE[:4])), ("TooMany", 6000, Seeker, (Theory(64), 64, FIVE[:3])),
    ("UnknownName", "y", Seeker(FOUR, 4, ["x"]).see, (Y + X, 9)), ("InvalidElement", 9, Seeker(FOUR, 4, ["x"]).see, (X - X, 9)),
    ("InvalidPage", 1, read_page, ("power 1\naxiom",)), ("InvalidPage", 0, read_page, ("power 1\naxiom\n",)), ("InvalidPage", 1, read_page, ("power 3\nfact f\naxiom\n",)),
]


class Refusals(Case):
    def test_at_each_entry(self):
        for kind, told, call, arguments in SMALL + TERMS + PROGRAMS + WORLDS + TABLES + QUESTIONS + LATER:
            self.refused(getattr(errors, kind), told, call, *arguments)

    def test_errors_that_tell_nothing(self):
        four, other = Table.of(FOUR, ["x"], X), Table.of(Theory(7), ["x"], X)
        for kind, call, arguments in (("Unlike", compare, (OVER, WIDE, FLAT)), ("Unlike", tables_of, (OVER, WIDE_ASKS)), ("Unlike", four.__add__, (other,)),
                                      ("Unlike", four.__isub__, (Table.of(FOUR, ["y"], Y),)), ("Clash", Seeker(FOUR, 4, ["x"]).see, (X - X, 1)),
                                      ("NothingLeft", Seeker(FOUR, 4, []).undo, ()), ("NothingLeft", Book().undo, ()), ("NothingLeft", Book().redo, ())):
            with self.assertRaises(getattr(errors, kind)) as caught:
                call(*arguments)
            self.assertEqual([type(caught.exception).__name__, vars(caught.exception)], [kind, {"code": kind}])
        # Programs that compare refuses: then Same does not hold, however many points there are.
        self.assertIs(Same(1).holds(OVER, WIDE, FLAT), False)

    def book(self):
        book = Book(4, capacity=3)
        book.run(("program", FLAT), ("program", Program("user", ["x"], [("call", ["x"], FLAT, ["x"])], ["x"])), ("fact", "f", Equation(X, 1)))
        return book

    def test_books(self):
        other = Program("other", ["x"], [], [1])
        for kind, told, command in (
                ("InvalidTerm", None, ("program", None)), ("DuplicateName", "f", ("program", Program("f", ["x"], [("call", ["x"], other, ["x"])], ["x"]))),
                ("TooMany", 3, ("program", Program("new", ["x"], [("call", ["x"], other, ["x"])], ["x"]))), ("InvalidName", 0, ("fact", 0, None)),
                ("InvalidEquation", None, ("fact", "f", None)), ("DuplicateName", "f", ("fact", "f", Equation(X, 1))), ("TooMany", 3, ("fact", "g", Equation(X, 1))),
                ("UnknownName", "g", ("drop", "g")), ("InUse", "user", ("drop", "flat")), ("InvalidEquation", 0, ("axiom", 0)), ("UnknownIndex", 0, ("forgo", 0)),
                ("InvalidCommand", "fact", ("fact", 0)), ("InvalidCommand", None, ["power", 1])):
            book = self.book()
            for call in (book.do, book.run):
                self.refused(getattr(errors, kind), told, call, command)
            self.assertEqual([book, book.history()], [self.book(), (1, 0)])
        book = self.book()
        self.refused(errors.InvalidCommand, "x", book.run, ("power", 1), ("x",), ("y",))
        self.refused(errors.InvalidPower, 1, book.run, ("power", 1), ("drop", "g"))
        self.refused(errors.UnknownName, None, book.same, None, "g")
        self.refused(errors.UnknownName, "g", book.same, "flat", "g")
        self.refused(errors.InvalidPower, 1, lambda: Book(1, capacity=0))
        self.refused(errors.InvalidNumber, 0, lambda: Book(2, capacity=0))
        self.refused(errors.TooMany, 4, book.follows, Equation(Y + Z, U + V))
        self.refused(errors.InvalidName, 0, book.solve, ["x", 0], [])
        self.refused(errors.UnknownName, "x", book.solve, ["y"], ["z"])

    def test_desks(self):
        desk = Desk(self.book())
        for line, answer in (("fact f x", "InvalidText"), ("fact F x", "InvalidText"), ("fact F x = 1", "InvalidName"), ("fact f x = 1", "DuplicateName"), ("fact g x = 1", "TooMany"),
                             ("same g f", "UnknownName"), ("power 0", "InvalidPower"), ("forgo 7", "UnknownIndex"), ("drop flat", "InUse"), ("drop g", "UnknownName")):
            self.assertEqual(desk(line), "error " + answer)


class Unlike84(Case):
    """Programs that are not compared: Unlike() goes ahead of TooMany(6000)."""

    def test_at_each_entry(self):
        book = Book(64)
        wide = Program("wide", ["x", "y", "z"], [], ["x"])
        twice = Program("twice", ["x", "y", "z"], [], ["x", "x"])
        book.run(("program", wide), ("program", twice), ("program", FLAT))
        desk = Desk(book)
        for one, other, answer in ((wide, twice, "Unlike"), (twice, wide, "Unlike"), (wide, FLAT, "Unlike"), (FLAT, twice, "Unlike"), (wide, wide, "TooMany"),
                                   (twice, twice, "TooMany")):
            for call, arguments in ((compare, (book.theory, one, other)), (book.same, (one.name, other.name))):
                with self.assertRaises(getattr(errors, answer)) as caught:
                    call(*arguments)
                self.assertEqual(vars(caught.exception), {"code": answer} if answer == "Unlike" else {"code": answer, "limit": 6000})
            self.assertEqual(desk(f"same {one.name} {other.name}"), "error " + answer)
            if answer == "Unlike":
                for pairs in (0, 1, 2):
                    self.assertIs(Same(pairs).holds(book.theory, one, other), False)
        self.refused(errors.TooMany, 6000, ways, book.theory, wide)
        self.assertEqual([book.counted, book.kept(), desk("same flat flat"), book.counted], [0, [], "same", 1])
        # In a theory without sizes there are no points, but programs that are not alike stay so.
        book.do(("axiom", Equation(0, 1)))
        self.assertEqual([desk("same wide wide"), desk("same wide twice"), desk("same twice flat")], ["same", "error Unlike", "error Unlike"])

    def test_equal_answers_of_compare_and_same(self):
        book = Book(3)
        book.run(("program", FLAT), ("program", ASKS))
        self.assertEqual([book.same("flat", "asks").pairs, compare(book.theory, FLAT, ASKS).pairs], [2, 2])
        self.assertIs(Same(2).holds(book.theory, FLAT, ASKS), True)


class Nothing(Case):
    def test_shapes_raise_no_errors(self):
        for one in ([], [(2, 1)], [(64, 10 ** 30)]):
            for other in ([], [(2, 1)], [(64, 10 ** 30)]):
                self.assertIn(bool(embed(Shape(one), Shape(other))), (True, False))


if __name__ == "__main__":
    unittest.main()
