import unittest
from unittest import mock

from selfpower import books
from selfpower.books import MOST_ENTRIES, Book
from selfpower.comparing import compare
from selfpower.deriving import follows
from selfpower.equations import Equation
from selfpower.errors import (
    DuplicateName, InUse, InvalidCommand, InvalidEquation, InvalidName, InvalidNumber, InvalidPower, InvalidTerm, NothingLeft, TooMany,
    UnknownIndex, UnknownName, Unlike)
from selfpower.pages import page_text
from selfpower.programs import Program
from selfpower.terms import Term
from selfpower.theories import Theory
from tests.book_oracle import ANY, WRONG_COMMANDS
from tests.checks import NO_NAMES, Case
from tests.oracle import NO_NUMBERS

X, Y, Z, U = [Term.of(name) for name in "xyzu"]

ONE = Program("one", ["x"], [], ["x"])
TWO = Program("two", ["x"], [], [X ** 4])
USER = Program("user", ["x"], [("call", ["x"], ONE, ["x"])], ["x"])
DEEP = Program("deep", ["x"], [("test", "x", 0, [("call", ["x"], USER, ["x"])], [("repeat", 2, [("call", ["x"], TWO, ["x"])])])], ["x"])

FACT = Equation(X * X, 1)

# So many names of facts.
MANY = ["f" + letter for letter in "abcdefghijklmnopqrstu"]


def letters(many):
    """A Book with so many facts."""
    book = Book()
    for name in MANY[:many]:
        book.do(("fact", name, FACT))
    return book


def state(book):
    """All that a book tells."""
    return [page_text(book), book.history(), book.capacity, book.kept(), book.counted, book.busy, repr(book), book.names()]


class BookCase(Case):
    def keeps(self, book, kind, told, call, *arguments):
        """The call raises this error and leaves the book as it was."""
        before = state(book)
        self.refused(kind, told, call, *arguments)
        self.assertEqual(state(book), before)


class Commands68(BookCase):
    def test_new_books(self):
        book = Book()
        self.assertEqual([book.theory, len(book), book.names(), book.facts(), book.history(), book.capacity, book.busy, book.counted, book.kept()],
                         [Theory(2), 0, [], [], (0, 0), 20, False, 0, []])
        self.assertEqual([repr(book), MOST_ENTRIES, Book.MOST, Book.MOST is MOST_ENTRIES], ["Book(0 entries)", 20, 20, True])
        for power in range(2, 65):
            self.assertEqual(Book(power).theory, Theory(power))
        self.assertEqual([Book(power=7, capacity=3).theory.power, Book(7, capacity=3).capacity, Book(capacity=1).capacity], [7, 3, 1])

    def test_each_command(self):
        book = Book()
        self.assertIsNone(book.do(("power", 4)))
        self.assertIsNone(book.do(("axiom", Equation(X + X, 0))))
        self.assertIsNone(book.do(("axiom", Equation(X ** 2, X))))
        self.assertEqual([book.theory, book.theory.sizes], [Theory(4, [Equation(X + X, 0), Equation(X ** 2, X)]), (2,)])
        self.assertIsNone(book.do(("forgo", 1)))
        self.assertEqual([book.theory.axioms(), book.theory.sizes], [[Equation(X + X, 0)], (2, 4)])
        self.assertIsNone(book.do(("program", ONE)))
        self.assertIsNone(book.do(("fact", "fact", FACT)))
        self.assertIsNone(book.do(("program", USER)))
        self.assertEqual([book.names(), len(book), repr(book), book.history()], [["one", "fact", "user"], 3, "Book(3 entries)", (7, 0)])
        self.assertEqual([book.program("one"), book.program("user"), book.fact("fact"), book.facts()], [ONE, USER, FACT, [FACT]])
        self.assertIsNone(book.do(("drop", "fact")))
        self.assertEqual([book.names(), book.facts()], [["one", "user"], []])
        self.assertIsNone(book.do(command=("drop", "user")))
        self.assertEqual([book.names(), len(book)], [["one"], 1])

    def test_a_command_that_changes_nothing_is_a_step(self):
        book = Book(4)
        book.do(("power", 4))
        self.assertEqual([book.history(), book], [(1, 0), Book(4)])
        book.undo()
        self.assertEqual(book.history(), (0, 1))

    def test_names_of_kinds(self):
        book = Book()
        book.run(("fact", "g", FACT), ("program", ONE), ("fact", "f", FACT), ("program", TWO))
        self.assertEqual([book.names(), book.names("program"), book.names("fact"), book.names("fact", "program"), book.names("program", "program")],
                         [["g", "one", "f", "two"], ["one", "two"], ["g", "f"], ["g", "one", "f", "two"], ["one", "two"]])
        self.assertEqual([book.names("other"), book.names("", "facts"), book.names("fact", "other")], [[], [], ["g", "f"]])

    def test_entries(self):
        book = Book()
        book.run(("fact", "g", FACT), ("program", ONE))
        for value in ANY + ["g", "two", ONE, FACT, Term.of("one"), [ONE], {}]:
            self.keeps(book, UnknownName, value, book.program, value)
        for value in ANY + ["one", "f", ONE, FACT, ("g",)]:
            self.keeps(book, UnknownName, value, book.fact, value)
        for value in ANY + ["f", "two", ONE, FACT, Term.of("g"), ["g"], ("g",), {}, None]:
            self.assertIs(value in book, False)
        self.assertEqual(["g" in book, "one" in book], [True, True])

    def test_later_changes(self):
        book = letters(3)
        book.names().clear()
        book.names("fact").append("x")
        book.facts().clear()
        book.kept().append(("a", "b"))
        self.assertEqual([book.names(), book.facts(), book.kept()], [MANY[:3], [FACT] * 3, []])
        command = ("program", ONE)
        book.do(command)
        self.assertEqual(command, ("program", ONE))

    def test_equal(self):
        def made(*commands):
            book = Book(4)
            for command in commands:
                book.do(command)
            return book

        f, g, axiom = ("fact", "f", FACT), ("fact", "g", Equation(X, 1)), ("axiom", Equation(X, X))
        self.assertEqual(made(f, g), made(f, g))
        self.assertEqual(made(f, g), made(("power", 7), g, f, ("drop", "g"), g, ("power", 4)))
        self.assertNotEqual(made(f, g), made(g, f))
        self.assertNotEqual(made(f), made(f, g))
        self.assertNotEqual(made(f), made(f, axiom))
        self.assertNotEqual(made(f), made(("fact", "f", Equation(1, X * X))))
        self.assertNotEqual(made(f), made(("fact", "h", FACT)))
        self.assertNotEqual(made(f), made(f, ("power", 7)))
        # The same sizes are not an equal theory.
        self.assertNotEqual(made(), made(axiom))
        self.assertNotEqual(made(("program", ONE)), made(("program", Program("one", ["x"], [], [X + 0]))))
        self.assertNotEqual(made(("fact", "one", FACT)), made(("program", ONE)))
        # Capacity, steps and kept answers do not matter.
        one, other = made(("program", ONE)), made(("program", ONE))
        one.same("one", "one")
        one.set_capacity(2)
        self.assertEqual(one, other)
        self.equals_nothing_of_another_kind(Book(), [Theory(2), [], {}, "Book(0 entries)", page_text(Book())])

    def test_the_interface(self):
        self.has_methods(Book, {
            "__init__": "(self, power=2, *, capacity=20)", "do": "(self, command)", "run": "(self, *commands)", "undo": "(self)", "redo": "(self)",
            "history": "(self)", "tried": "(self, *commands)", "set_capacity": "(self, value)", "names": "(self, *kinds)", "program": "(self, name)",
            "fact": "(self, name)", "facts": "(self)", "same": "(self, one, other)", "kept": "(self)", "follows": "(self, goal)",
            "solve": "(self, given, sought)", "twin": "(self)", "__contains__": "(self, x)", "__len__": "(self)", "__eq__": "(self, other)",
            "__repr__": "(self)"})
        for name in ("busy", "theory", "capacity", "counted"):
            self.assertIsInstance(vars(Book)[name], property)
        with self.assertRaises(TypeError):
            Book(2, 20)
        for name in ("busy", "theory", "counted"):
            with self.assertRaises(AttributeError):
                setattr(Book(), name, 1)


class Refused69(BookCase):
    def book(self):
        book = Book(4)
        book.run(("axiom", Equation(X, X)), ("program", ONE), ("fact", "g", FACT), ("program", USER))
        book.same("one", "user")
        book.undo()
        book.redo()
        book.same("one", "one")
        return book

    def test_no_commands(self):
        book = self.book()
        for value in WRONG_COMMANDS + ANY + [ONE, FACT, {}, X]:
            if value == ("power", 3):
                continue
            word = value[0] if isinstance(value, tuple) and value else None
            for call in (book.do, book.run):
                self.keeps(book, InvalidCommand, word, call, value)
            self.assertIs(book.tried(value), False)
        for word, many in (("power", 1), ("axiom", 1), ("forgo", 1), ("program", 1), ("fact", 2), ("drop", 1)):
            for other in (0, 1, 2, 3, 4):
                if other != many:
                    self.keeps(book, InvalidCommand, word, book.do, (word,) + (None,) * other)

    def test_power(self):
        book = self.book()
        for value in NO_NUMBERS + [-1, 0, 1, 65, 10 ** 30, X]:
            self.keeps(book, InvalidPower, value, book.do, ("power", value))
        for value in (2, 64):
            book.do(("power", value))
            self.assertEqual(book.theory.power, value)
        names = Equation(X * Y * Z * U, 0)
        book = Book(4)
        book.do(("axiom", names))
        self.keeps(book, TooMany, 6000, book.do, ("power", 61))
        self.keeps(book, InvalidPower, 65, book.do, ("power", 65))
        book.do(("power", 3))
        self.assertEqual(book.theory, Theory(3, [names]))

    def test_axiom_and_forgo(self):
        book = self.book()
        for value in ANY[:-1] + ["x = y", X, ONE, (FACT,)]:
            self.keeps(book, InvalidEquation, value, book.do, ("axiom", value))
        book.do(("power", 64))
        self.keeps(book, TooMany, 6000, book.do, ("axiom", Equation(X + Y + Z, 0)))
        for value in NO_NUMBERS + [-1, 1, 2, 10 ** 30, X]:
            self.keeps(book, UnknownIndex, value, book.do, ("forgo", value))
        book.do(("forgo", 0))
        self.keeps(book, UnknownIndex, 0, book.do, ("forgo", 0))

    def test_program(self):
        book = self.book()
        for value in ANY + [FACT, "one", (ONE,), [ONE], ONE.text()]:
            self.keeps(book, InvalidTerm, value, book.do, ("program", value))
        self.keeps(book, DuplicateName, "one", book.do, ("program", Program("one", [], [], [1])))
        self.keeps(book, DuplicateName, "g", book.do, ("program", Program("g", ["x"], [("call", ["x"], TWO, ["x"])], ["x"])))
        self.keeps(book, UnknownName, "two", book.do, ("program", DEEP))
        for steps, name in (
                ([("call", ["x"], TWO, ["x"]), ("call", ["x"], Program("v", ["a"], [], ["a"]), ["x"])], "two"),
                ([("call", ["x"], ONE, ["x"]), ("repeat", 3, [("call", ["x"], Program("v", ["a"], [], ["a"]), ["x"])]), ("call", ["x"], TWO, ["x"])], "v"),
                ([("test", X, 0, [], [("call", ["x"], TWO, ["x"])])], "two"),
                ([("test", X, 0, [("call", ["x"], Program("w", ["a"], [], ["a"]), ["x"])], [("call", ["x"], TWO, ["x"])])], "w"),
                ([("call", ["x"], Program("g", ["a"], [], ["a"]), ["x"])], "g"),
                # One with the name of an entry that is not equal to it.
                ([("call", ["x"], Program("one", ["a"], [], ["a"]), ["x"])], "one"),
                ([("call", ["x"], USER, ["x"]), ("call", ["x"], Program("one", ["x"], [], [X + 0]), ["x"])], "one"),
                ([("call", ["x"], Program("user", ["x"], [("call", ["x"], Program("one", ["x"], [], [X + 0]), ["x"])], ["x"]), ["x"])], "user")):
            self.keeps(book, UnknownName, name, book.do, ("program", Program("new", ["x"], steps, ["x"])))
        # An equal program is enough, it need not be the very entry.
        book.do(("program", Program("new", ["x"], [("call", ["x"], Program.read(ONE.text()), ["x"]), ("call", ["x"], USER, ["x"])], ["x"])))
        book.do(("program", TWO))
        book.do(("program", DEEP))
        self.assertEqual(book.names("program"), ["one", "user", "new", "two", "deep"])

    def test_a_program_that_calls_itself_by_name(self):
        book = Book()
        self.keeps(book, UnknownName, "one", book.do, ("program", Program("one", ["x"], [("call", ["x"], ONE, ["x"])], ["x"])))

    def test_fact(self):
        book = self.book()
        for value in NO_NAMES + [X, FACT]:
            self.keeps(book, InvalidName, value, book.do, ("fact", value, FACT))
            self.keeps(book, InvalidName, value, book.do, ("fact", value, None))
        for value in ANY[:-1] + ["x = y", X, ONE]:
            self.keeps(book, InvalidEquation, value, book.do, ("fact", "f", value))
            self.keeps(book, InvalidEquation, value, book.do, ("fact", "one", value))
        self.keeps(book, DuplicateName, "one", book.do, ("fact", "one", FACT))
        self.keeps(book, DuplicateName, "g", book.do, ("fact", "g", FACT))

    def test_drop(self):
        book = self.book()
        for value in ANY[:6] + ANY[7:] + ["two", "f", ONE, FACT, ("one",), ["one"], Term.of("one")]:
            self.keeps(book, UnknownName, value, book.do, ("drop", value))
        self.keeps(book, InUse, "user", book.do, ("drop", "one"))
        book.run(("program", TWO), ("program", DEEP), ("program", Program("late", ["x"], [("call", ["x"], ONE, ["x"])], ["x"])))
        # The first entry that calls it, in the order in which they were entered; calls of calls do not matter.
        self.keeps(book, InUse, "user", book.do, ("drop", "one"))
        self.keeps(book, InUse, "deep", book.do, ("drop", "user"))
        self.keeps(book, InUse, "deep", book.do, ("drop", "two"))
        book.run(("drop", "late"), ("drop", "deep"), ("drop", "user"), ("drop", "one"), ("drop", "g"))
        self.assertEqual(book.names(), ["two"])

    def test_the_capacity_behind_the_name_and_ahead_of_the_calls(self):
        book = letters(4)
        book.set_capacity(4)
        self.keeps(book, DuplicateName, "fa", book.do, ("fact", "fa", FACT))
        self.keeps(book, TooMany, 4, book.do, ("fact", "new", FACT))
        self.keeps(book, DuplicateName, "fa", book.do, ("program", Program("fa", ["x"], [("call", ["x"], TWO, ["x"])], ["x"])))
        self.keeps(book, TooMany, 4, book.do, ("program", USER))
        self.keeps(book, InvalidEquation, None, book.do, ("fact", "new", None))
        self.keeps(book, InvalidTerm, None, book.do, ("program", None))


class Runs70(BookCase):
    def test_all_in_order(self):
        book = Book()
        self.assertIsNone(book.run(("power", 4), ("program", ONE), ("program", USER), ("fact", "f", FACT), ("drop", "f"), ("power", 7)))
        self.assertEqual([book.names(), book.theory.power, book.history()], [["one", "user"], 7, (1, 0)])
        book.undo()
        self.assertEqual([book, book.history()], [Book(), (0, 1)])
        book.redo()
        self.assertEqual([book.names(), book.theory.power, book.history()], [["one", "user"], 7, (1, 0)])

    def test_no_commands_are_a_step(self):
        book = Book(4)
        book.run()
        self.assertEqual([book, book.history(), book.tried()], [Book(4), (1, 0), True])
        book.undo()
        self.assertEqual(book.history(), (0, 1))

    def test_none_of_them(self):
        right = [("power", 4), ("axiom", FACT), ("program", ONE), ("fact", "f", FACT), ("forgo", 0), ("program", USER)]
        for at in range(len(right) + 1):
            for wrong, kind, told in ((("power", 1), InvalidPower, 1), (("drop", "zz"), UnknownName, "zz"), (("program", DEEP), UnknownName, "user"),
                                      (("fact", "f", 3), InvalidEquation, 3), (("forgo", 5), UnknownIndex, 5)):
                if wrong[0] == "program" and at == len(right):
                    told = "two"
                book = Book(3)
                book.do(("program", TWO)) if wrong[0] != "program" else book.do(("fact", "other", FACT))
                book.do(("power", 3))
                book.undo()
                if "two" in book:
                    book.same("two", "two")
                self.keeps(book, kind, told, book.run, *right[:at], wrong, *right[at:])
                self.assertIs(book.tried(*right[:at], wrong, *right[at:]), False)
                self.assertEqual(book.history(), (1, 1))
                self.assertIs(book.tried(*right), True)
                self.assertEqual(book.history(), (1, 1))

    def test_wrong_forms_go_ahead_of_all_errors(self):
        book = Book(3)
        self.keeps(book, InvalidCommand, "nope", book.run, ("power", 1), ("drop", "x"), ("nope", 1), None)
        self.keeps(book, InvalidCommand, None, book.run, ("power", 4), ("fact", "f", FACT), ["power", 3], ("nope",))
        self.keeps(book, InvalidCommand, "fact", book.run, ("power", 1), ("fact", "f"), None)
        self.keeps(book, InvalidPower, 1, book.run, ("power", 4), ("power", 1), ("drop", "x"))
        self.assertEqual([book.tried(("power", 4), None), book.tried(("power", 4)), book.theory.power], [False, True, 3])

    def test_entries_of_the_same_run_count(self):
        book = Book()
        book.run(("program", ONE), ("program", USER), ("program", TWO), ("program", DEEP))
        self.keeps(book, InUse, "deep", book.run, ("fact", "f", FACT), ("drop", "user"))
        self.keeps(book, DuplicateName, "f", book.run, ("fact", "f", FACT), ("fact", "f", FACT))
        book.run(("drop", "deep"), ("drop", "user"), ("fact", "user", FACT))
        self.assertEqual(book.names(), ["one", "two", "user"])
        book = letters(19)
        self.keeps(book, TooMany, 20, book.run, ("fact", "x", FACT), ("fact", "y", FACT))
        book.run(("drop", "fa"), ("fact", "x", FACT), ("fact", "y", FACT))
        self.assertEqual(len(book), 20)

    def test_busy_only_while_commands_are_done(self):
        book, seen = Book(), []
        real = books.behind_command

        def watching(*arguments):
            seen.append(book.busy)
            return real(*arguments)

        with mock.patch.object(books, "behind_command", watching):
            book.run(("power", 4), ("fact", "f", FACT))
            self.assertEqual([seen, book.busy], [[True, True], False])
            for call in (book.do, book.run):
                self.refused(InvalidPower, 1, call, ("power", 1))
                self.assertIs(book.busy, False)
            self.assertEqual(book.tried(("power", 1)), False)
            self.refused(InvalidCommand, None, book.run, None)
            book.undo()
            book.redo()
            self.assertIs(book.busy, False)
        self.assertEqual(seen, [True, True, True, True, False])


class Steps71(BookCase):
    def test_undo_and_redo(self):
        book = Book()
        commands = [("power", 4), ("axiom", FACT), ("program", ONE), ("fact", "f", FACT), ("program", USER), ("drop", "f"), ("forgo", 0), ("power", 4)]
        pages = [page_text(book)]
        for command in commands:
            book.do(command)
            pages.append(page_text(book))
        for at in range(len(commands), 0, -1):
            self.assertEqual([page_text(book), book.history()], [pages[at], (at, len(commands) - at)])
            self.assertIsNone(book.undo())
        self.assertEqual([page_text(book), book.history()], [pages[0], (0, 8)])
        self.keeps_nothing_left(book, book.undo)
        for at in range(len(commands)):
            self.assertIsNone(book.redo())
            self.assertEqual([page_text(book), book.history()], [pages[at + 1], (at + 1, len(commands) - at - 1)])
        self.keeps_nothing_left(book, book.redo)

    def keeps_nothing_left(self, book, call):
        before = state(book)
        with self.assertRaises(NothingLeft) as caught:
            call()
        self.assertEqual([type(caught.exception), caught.exception.code, state(book)], [NothingLeft, "NothingLeft", before])

    def test_a_new_step_makes_it_impossible_to_redo(self):
        for step in (lambda book: book.do(("power", 7)), lambda book: book.run(), lambda book: book.run(("fact", "h", FACT), ("drop", "h"))):
            book = letters(3)
            book.undo()
            book.undo()
            self.assertEqual(book.history(), (1, 2))
            step(book)
            self.assertEqual(book.history(), (2, 0))
            self.keeps_nothing_left(book, book.redo)

    def test_what_makes_no_step(self):
        book = letters(2)
        book.do(("program", ONE))
        book.undo()
        self.refused(InvalidPower, 1, book.do, ("power", 1))
        book.tried(("power", 7))
        book.tried(("power", 1))
        book.set_capacity(7)
        book.capacity = 9
        book.twin()
        book.follows(FACT)
        book.solve([], ["x"])
        book.names()
        self.assertEqual(book.history(), (2, 1))
        book.redo()
        book.same("one", "one")
        self.assertEqual([book.history(), book.names()], [(3, 0), ["fa", "fb", "one"]])

    def test_nothing_left_in_a_new_book(self):
        self.keeps_nothing_left(Book(), Book().undo)
        book = Book()
        self.keeps_nothing_left(book, book.undo)
        self.keeps_nothing_left(book, book.redo)


class Kept72(BookCase):
    def book(self):
        book = Book(4)
        book.run(("program", ONE), ("program", TWO), ("program", USER), ("fact", "f", FACT))
        for pair in (("one", "two"), ("two", "one"), ("one", "user"), ("two", "two")):
            book.same(*pair)
        return book

    ALL = [("one", "two"), ("one", "user"), ("two", "one"), ("two", "two")]

    def test_each_pair_by_itself(self):
        book = Book(4)
        book.run(("program", ONE), ("program", TWO))
        for pair, counted in ((("one", "two"), 1), (("two", "one"), 2), (("one", "two"), 2), (("one", "one"), 3), (("one", "one"), 3), (("two", "one"), 3)):
            found = book.same(*pair)
            self.assertEqual([found.KIND, found.pairs, book.counted], ["same", 1, counted])
        self.assertEqual(book.kept(), [("one", "one"), ("one", "two"), ("two", "one")])
        self.assertEqual(book.same(one="one", other="two").KIND, "same")
        book.do(("power", 7))
        found, wanted = book.same("one", "two"), compare(Theory(7), ONE, TWO)
        self.assertEqual([found.KIND, found.world, found.row, book.counted], ["parted", wanted.world, wanted.row, 4])

    def test_what_drops_all(self):
        for change in (lambda book: book.do(("power", 4)), lambda book: book.do(("power", 7)), lambda book: book.do(("axiom", Equation(X, X))),
                       lambda book: book.run(("axiom", FACT), ("forgo", 0)), lambda book: book.undo(), lambda book: book.run(("fact", "h", FACT), ("power", 4))):
            book = self.book()
            self.assertEqual([book.kept(), book.counted], [self.ALL, 4])
            change(book)
            self.assertEqual([book.kept(), book.counted], [[], 4])
        book = self.book()
        book.run(("axiom", FACT))
        book.run(("program", Program("new", [], [], [1])))
        book.same("new", "new")
        book.do(("forgo", 0))
        self.assertEqual([book.kept(), book.counted], [[], 5])
        book.undo()
        book.same("new", "new")
        book.redo()
        self.assertEqual([book.kept(), book.counted], [[], 6])

    def test_what_drops_some_or_none(self):
        for change, left in ((lambda book: book.do(("drop", "user")), [("one", "two"), ("two", "one"), ("two", "two")]),
                             (lambda book: book.do(("drop", "two")), [("one", "user")]),
                             (lambda book: book.run(("drop", "user"), ("drop", "one")), [("two", "two")]),
                             (lambda book: book.run(("drop", "two"), ("program", TWO)), [("one", "user")]),
                             (lambda book: book.do(("drop", "f")), self.ALL), (lambda book: book.do(("fact", "h", FACT)), self.ALL),
                             (lambda book: book.do(("program", Program("new", [], [], [1]))), self.ALL), (lambda book: book.run(), self.ALL),
                             (lambda book: book.set_capacity(5), self.ALL), (lambda book: book.tried(("power", 7)), self.ALL),
                             (lambda book: book.tried(("drop", "two"), ("power", 4)), self.ALL), (lambda book: book.follows(FACT), self.ALL)):
            book = self.book()
            change(book)
            self.assertEqual([book.kept(), book.counted], [left, 4])

    def test_refused_commands_drop_none(self):
        book = self.book()
        for call, commands in ((book.do, [("power", 1)]), (book.do, [("axiom", None)]), (book.do, [("forgo", 0)]), (book.do, [("drop", "one")]),
                               (book.run, [("power", 4), ("drop", "two"), ("power", 1)]), (book.run, [("axiom", FACT), None]),
                               (book.run, [("drop", "two"), ("drop", "two")])):
            with self.assertRaises(Exception):
                call(*commands)
            self.assertEqual([book.kept(), book.counted], [self.ALL, 4])
        for call in (book.redo,):
            with self.assertRaises(NothingLeft):
                call()
        self.assertEqual([book.kept(), book.counted], [self.ALL, 4])

    def test_kept_answers_are_not_computed_again(self):
        book, real = self.book(), compare
        with mock.patch.object(books, "compare", side_effect=real) as watched:
            for _ in range(3):
                for pair in self.ALL:
                    self.assertTrue(book.same(*pair))
            self.assertEqual(watched.call_count, 0)
            book.same("user", "one")
            book.same("user", "one")
            self.assertEqual([watched.call_count, book.counted], [1, 5])

    def test_refused(self):
        book = self.book()
        book.do(("program", Program("none", [], [], [1])))
        book.do(("program", Program("outs", ["x"], [], [1, 2])))
        for value in ANY + ["f", "zz", ONE, None]:
            if value == "x":
                continue
            self.keeps(book, UnknownName, value, book.same, value, "one")
            self.keeps(book, UnknownName, value, book.same, "one", value)
            self.keeps(book, UnknownName, value, book.same, value, None)
        for pair in (("one", "none"), ("none", "one"), ("one", "outs"), ("outs", "none")):
            before = state(book)
            with self.assertRaises(Unlike) as caught:
                book.same(*pair)
            self.assertEqual([type(caught.exception), caught.exception.code, state(book)], [Unlike, "Unlike", before])

    def test_too_many_points(self):
        book = Book(64)
        wide = Program("wide", ["x", "y", "z"], [], ["x"])
        book.run(("program", wide), ("program", ONE))
        self.keeps(book, TooMany, 6000, book.same, "wide", "wide")
        with self.assertRaises(Unlike):
            book.same("wide", "one")
        self.assertEqual([book.kept(), book.counted], [[], 0])
        book.do(("power", 2))
        self.assertEqual(book.same("wide", "wide").KIND, "same")
        self.assertEqual(book.counted, 1)


class Twins73(BookCase):
    def test_a_twin_is_as_its_original(self):
        book = Book(4)
        book.run(("program", ONE), ("program", TWO))
        book.do(("fact", "f", FACT))
        book.do(("axiom", Equation(X, X)))
        book.undo()
        book.same("one", "two")
        book.set_capacity(7)
        twin = book.twin()
        self.assertEqual([twin == book, state(twin)], [True, state(book)])
        self.assertIsNot(twin, book)
        self.assertEqual([twin.history(), twin.counted, twin.kept(), twin.capacity], [(2, 1), 1, [("one", "two")], 7])
        twin.same("one", "two")
        self.assertEqual(twin.counted, 1)

    def test_they_change_without_one_another(self):
        def made():
            book = letters(3)
            book.do(("program", ONE))
            book.do(("power", 4))
            book.undo()
            book.same("one", "one")
            return book

        for change in (lambda book: book.undo(), lambda book: book.redo(), lambda book: book.do(("power", 7)), lambda book: book.run(("drop", "fa")),
                       lambda book: book.same("one", "one"), lambda book: book.set_capacity(4), lambda book: setattr(book, "capacity", 5),
                       lambda book: book.do(("program", USER)), lambda book: (book.undo(), book.undo(), book.do(("fact", "fz", FACT)))):
            book = made()
            twin = book.twin()
            before = state(book)
            change(twin)
            self.assertEqual(state(book), before)
            twin = book.twin()
            change(book)
            self.assertEqual(state(twin), before)
            self.assertEqual(state(book), state(self.changed(made(), change)))

    def changed(self, book, change):
        change(book)
        return book

    def test_steps_of_twins(self):
        book = letters(3)
        twin = book.twin()
        twin.undo()
        twin.undo()
        twin.do(("power", 7))
        self.assertEqual([book.history(), twin.history(), book.names(), twin.names()], [(3, 0), (2, 0), MANY[:3], MANY[:1]])
        twin.undo()
        twin.undo()
        self.assertEqual([twin, twin.history()], [Book(), (0, 2)])

    def test_a_twin_with_more_entries_than_its_capacity(self):
        book = letters(5)
        for name in MANY[:3]:
            book.do(("drop", name))
        book.set_capacity(2)
        for _ in range(3):
            book.undo()
        twin = book.twin()
        self.assertEqual([len(twin), twin.capacity, state(twin)], [5, 2, state(book)])


class Capacity74(BookCase):
    def test_limits(self):
        for value in (1, 20, 7):
            self.assertEqual(Book(capacity=value).capacity, value)
            book = Book()
            self.assertIsNone(book.set_capacity(value))
            self.assertEqual(book.capacity, value)
            book = Book()
            book.capacity = value
            self.assertEqual(book.capacity, value)
            book = Book()
            book.set_capacity(value=value)
            self.assertEqual(book.capacity, value)
        for value in NO_NUMBERS + [0, -1, 21, 10 ** 30, X]:
            book = letters(1)
            self.keeps(book, InvalidNumber, value, book.set_capacity, value)
            self.keeps(book, InvalidNumber, value, setattr, book, "capacity", value)
            with self.assertRaises(InvalidNumber) as caught:
                Book(capacity=value)
            self.assertEqual(repr(caught.exception.value), repr(value))
            for power in (1, None, 65):
                with self.assertRaises(InvalidPower) as caught:
                    Book(power, capacity=value)
                self.assertEqual(caught.exception.value, power)
        for value in NO_NUMBERS + [0, 1, 65, -2, X]:
            self.refused(InvalidPower, value, Book, value)

    def test_at_least_the_number_of_entries(self):
        book = letters(4)
        for value in (1, 2, 3):
            self.keeps(book, InvalidNumber, value, book.set_capacity, value)
        book.set_capacity(4)
        self.keeps(book, TooMany, 4, book.do, ("fact", "x", FACT))
        self.keeps(book, TooMany, 4, book.do, ("program", ONE))
        book.do(("drop", "fb"))
        book.do(("program", ONE))
        self.keeps(book, TooMany, 4, book.do, ("fact", "x", FACT))
        book.capacity = 5
        book.do(("fact", "x", FACT))
        self.assertEqual(book.names(), ["fa", "fc", "fd", "one", "x"])

    def test_one_and_twenty(self):
        book = Book(capacity=1)
        book.do(("fact", "x", FACT))
        self.keeps(book, TooMany, 1, book.do, ("fact", "y", FACT))
        book = letters(20)
        self.assertEqual(len(book), 20)
        self.keeps(book, TooMany, 20, book.do, ("fact", "y", FACT))
        self.keeps(book, InvalidNumber, 19, book.set_capacity, 19)

    def test_undo_and_redo_do_not_look_at_it(self):
        book = letters(3)
        for name in MANY[:3]:
            book.do(("drop", name))
        book.set_capacity(1)
        book.undo()
        self.assertEqual([len(book), book.capacity], [1, 1])
        self.keeps(book, TooMany, 1, book.twin().do, ("fact", "x", FACT))
        book.undo()
        book.undo()
        self.assertEqual([len(book), book.capacity, book.history()], [3, 1, (3, 3)])
        # There are more entries than the capacity now.
        self.keeps(book, TooMany, 1, book.twin().do, ("fact", "x", FACT))
        self.keeps(book, InvalidNumber, 1, book.set_capacity, 1)
        self.keeps(book, InvalidNumber, 2, book.set_capacity, 2)
        book.redo()
        book.redo()
        book.redo()
        self.assertEqual([len(book), book.capacity], [0, 1])
        for _ in range(6):
            book.undo()
        book.redo()
        book.redo()
        self.assertEqual([book.names(), book.capacity], [MANY[:2], 1])
        book.do(("drop", "fb"))
        self.keeps(book, TooMany, 1, book.do, ("fact", "x", FACT))
        book.do(("drop", "fa"))
        book.do(("fact", "x", FACT))
        self.assertEqual([book.names(), book.history()], [["x"], (5, 0)])


class Questions75(BookCase):
    def test_between_changes(self):
        book = Book(3)
        goal = Equation(X, 1)
        self.assertEqual([book.follows(goal).KIND, book.facts()], ["broken", []])
        book.do(("fact", "f", FACT))
        self.assertEqual([book.follows(goal).KIND, book.facts()], ["broken", [FACT]])
        book.do(("fact", "g", Equation(X, X ** 2)))
        answer = book.follows(goal=goal)
        self.assertEqual([answer.KIND, answer.holds(book.theory, book.facts(), goal), book.facts()], ["derived", True, [FACT, Equation(X, X ** 2)]])
        book.do(("drop", "f"))
        self.assertEqual([book.follows(goal).KIND, book.facts()], ["broken", [Equation(X, X ** 2)]])
        book.undo()
        self.assertEqual(book.follows(goal).KIND, "derived")
        book.run(("drop", "g"), ("power", 2))
        self.assertEqual(book.follows(goal).KIND, "derived")
        wanted = follows(Theory(2), [FACT], goal)
        self.assertEqual([table.entries() for table in book.follows(goal).factors()], [table.entries() for table in wanted.factors()])
        book.do(("axiom", Equation(0, 1)))
        self.assertEqual(book.follows(Equation(2, 1)).KIND, "derived")
        self.assertEqual(book.history(), (4, 0))

    def test_solve(self):
        book = Book(4)
        book.do(("fact", "f", Equation(X * X, Term.of("a"))))
        self.assertEqual([book.solve(["a"], ["x"]).KIND, book.solve(["a"], ["x"]).answer()["x"].entries()], ["solved", [0, 1, 3]])
        book.do(("power", 3))
        found = book.solve(given=["a"], sought=["x"])
        self.assertEqual([found.KIND, found.point], ["unsolved", (3, (2,))])
        self.keeps(book, UnknownName, "a", book.solve, [], ["x"])
        self.keeps(book, InvalidNumber, 0, book.solve, ["x", "a"], [])
        self.keeps(book, InvalidName, None, book.solve, [None], ["x"])
        self.keeps(book, TooMany, 4, book.solve, ["x", "y", "z", "u"], ["a"])
        book.do(("drop", "f"))
        self.assertEqual(book.solve([], ["x"]).KIND, "solved")

    def test_refused(self):
        book = Book(64)
        book.do(("fact", "f", Equation(X + Y, Z)))
        self.keeps(book, TooMany, 4, book.follows, Equation(U, Term.of("v")))
        self.keeps(book, TooMany, 6000, book.follows, Equation(U, X))
        self.keeps(book, TooMany, 6000, book.follows, Equation(1, 1))
        # Programs are no facts.
        book = Book(4)
        book.do(("program", ONE))
        self.assertEqual([book.facts(), book.follows(Equation(X, 0)).KIND], [[], "broken"])


if __name__ == "__main__":
    unittest.main()
