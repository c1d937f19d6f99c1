import random
import re
import unittest

from selfpower.books import Book
from selfpower.comparing import compare
from selfpower.deriving import follows
from selfpower.desk import Desk
from selfpower.equations import Equation
from selfpower.pages import page_text
from selfpower.programs import Program
from selfpower.terms import Term
from selfpower.theories import Theory
from tests import term_oracle
from tests.book_oracle import EQUATIONS, NAMES, Chance, PlainBook, Wrong, expected, told
from tests.checks import Case

X, Y = Term.of("x"), Term.of("y")

ONE = Program("one", ["x"], [], ["x"])
TWO = Program("two", ["x"], [], [X ** 4])


def state(book):
    return [page_text(book), book.history(), book.capacity, book.kept(), book.counted, book.busy]


def equation_in(text):
    """The equation that a text tells, by a second look; the texts of the tests have no terms that are too deep or long."""
    one, sign, other = text.partition(" = ")
    if not sign or not term_oracle.is_text(one) or not term_oracle.is_text(other):
        raise Wrong("InvalidText")
    return Equation.read(text)


def number_in(text):
    return int(text) if re.fullmatch("0|[1-9][0-9]{0,30}", text) else None


def plain_answer(plain, line):
    """What a desk answers, by the words of the document."""
    found = re.fullmatch("(power|forgo) (.*)", line, re.DOTALL)
    if found and number_in(found[2]) is not None:
        plain.do((found[1], number_in(found[2])))
        return "ok"
    found = re.fullmatch("(axiom|follows) (.*)", line, re.DOTALL)
    if found:
        equation = equation_in(found[2])
        if found[1] == "follows":
            answer = told(follows, plain.theory(), [value for kind, _, value in plain.entries if kind == "fact"], equation)
            if isinstance(answer, tuple):
                raise Wrong(*answer)
            return "yes" if answer else "no"
        plain.do(("axiom", equation))
        return "ok"
    found = re.fullmatch("fact ([^ ]+) (.*)", line, re.DOTALL)
    if found:
        equation = equation_in(found[2])
        plain.do(("fact", found[1], equation))
        return "ok"
    found = re.fullmatch("drop ([^ ]+)", line)
    if found:
        plain.do(("drop", found[1]))
        return "ok"
    found = re.fullmatch("same ([^ ]+) ([^ ]+)", line)
    if found:
        return plain.same(found[1], found[2])
    if line in ("undo", "redo"):
        plain.undo() if line == "undo" else plain.redo()
        return "ok"
    if line == "sizes":
        return " ".join(str(size) for size in plain.theory().sizes) or "none"
    if line == "names":
        return " ".join(plain.names()) or "none"
    return "unknown"


def line_by(chance, plain):
    """A line by chance, mostly a right one."""
    name, equation = chance.choice(NAMES), chance.choice(EQUATIONS).text()
    others, programs = plain.names() + NAMES, plain.names("program") * 5 + NAMES
    line = chance.choice([
        f"power {chance.choice([2, 3, 4, 7, 8, 22, 61, 1, 65, 0])}", f"axiom {equation}", f"forgo {chance.randrange(3)}", f"fact {name} {equation}",
        f"drop {chance.choice(others)}", "undo", "undo", "redo", "redo", "sizes", "names", f"follows {equation}", f"same {chance.choice(programs)} {chance.choice(programs)}",
        f"same {chance.choice(programs)} {chance.choice(programs)}", f"same {chance.choice(programs)} {chance.choice(programs)}"])
    if chance.random() < 0.15:
        at = chance.randrange(len(line) + 1)
        line = chance.choice([line[:at] + " " + line[at:], line[:at] + line[at + 1:], line + " ", " " + line, line[:at] + chance.choice("x01(=\n") + line[at:],
                              line.replace(" ", "  ", 1), line.upper(), line + " x"])
    return line


class Desks78(Case):
    def test_the_example_of_the_document(self):
        book = Book(4)
        book.run(("program", Program("one", ["x"], [], ["x"])), ("program", Program.read("program two\ninputs x\noutputs (x ** 4)")))
        desk = Desk(book)
        self.assertEqual([desk("same one two"), desk("power 7"), desk("same one two"), desk("sizes"), desk("fact f x = 1"), desk("follows (x * x) = 1"),
                          book.history(), desk("undo it")], ["same", "ok", "parted", "2 3 4 7", "ok", "yes", (3, 0), "unknown"])

    def test_the_very_book(self):
        book = Book()
        desk = Desk(book)
        self.assertIs(desk.book, book)
        self.assertEqual([desk.say("power 4"), book.theory], ["ok", Theory(4)])
        book.do(("fact", "f", Equation(X, 1)))
        self.assertEqual([desk.say("names"), desk.say("undo"), desk.say("names"), book.history()], ["f", "ok", "none", (1, 1)])
        self.assertIs(Desk(book=book).book, book)

    def test_say_call_log_and_length(self):
        desk = Desk(Book(4))
        self.assertEqual([len(desk), desk.log(), repr(desk)], [0, [], "Desk(0 lines)"])
        self.assertEqual([desk("sizes"), desk.say("nonsense"), desk.say(line="drop x"), desk(line="redo"), desk("")],
                         ["2 4", "unknown", "error UnknownName", "error NothingLeft", "unknown"])
        self.assertEqual(desk.log(), [("sizes", "2 4"), ("nonsense", "unknown"), ("drop x", "error UnknownName"), ("redo", "error NothingLeft"), ("", "unknown")])
        self.assertEqual([len(desk), repr(desk), [type(pair) for pair in desk.log()]], [5, "Desk(5 lines)", [tuple] * 5])
        desk.log().clear()
        self.assertEqual(len(desk.log()), 5)
        # Two desks at one book have logs of their own.
        other = Desk(desk.book)
        other("power 7")
        self.assertEqual([len(other), len(desk), desk("sizes")], [1, 5, "2 3 4 7"])

    def test_each_form(self):
        book = Book(4)
        book.run(("program", ONE), ("program", TWO))
        desk = Desk(book)
        for line, answer in (
                ("names", "one two"), ("sizes", "2 4"), ("fact f (x * x) = 1", "ok"), ("fact g x = y", "ok"), ("names", "one two f g"), ("follows x = 1", "yes"),
                ("follows y = 0", "no"), ("drop g", "ok"), ("follows y = 1", "no"), ("undo", "ok"), ("follows y = 1", "yes"), ("redo", "ok"), ("names", "one two f"),
                ("same one two", "same"), ("same two one", "same"), ("same one one", "same"), ("power 22", "ok"), ("sizes", "2 4 8"), ("same one two", "parted"),
                ("axiom (x ** 4) = x", "ok"), ("sizes", "2 4"), ("same one two", "same"), ("axiom 0 = 1", "ok"), ("sizes", "none"), ("follows 0 = 1", "yes"),
                ("forgo 0", "ok"), ("sizes", "none"), ("forgo 0", "ok"), ("sizes", "2 4 8"), ("drop one", "ok"), ("drop two", "ok"), ("drop f", "ok"), ("names", "none")):
            self.assertEqual(desk(line), answer, line)

    def test_drawn_lines(self):
        counts = {}
        for seed in range(120):
            chance = random.Random(seed)
            draws, book, plain = Chance(seed), Book(), PlainBook()
            desk, log = Desk(book), []
            for _ in range(70):
                if chance.random() < 0.3:
                    command = ("program", draws.program(plain)) if chance.random() < 0.7 else draws.command(plain)
                    told(book.do, command)
                    expected(plain.do, command)
                line = line_by(chance, plain)
                before = state(book)
                answer, wanted = desk(line), expected(plain_answer, plain, line)
                if isinstance(wanted, tuple):
                    wanted = f"error {wanted[0]}"
                log.append((line, wanted))
                self.assertEqual(answer, wanted, line)
                self.assertEqual([page_text(book), book.history(), book.kept(), book.counted],
                                 [plain.page(), (len(plain.past), len(plain.future)), sorted(plain.kept), plain.counted])
                if answer == "unknown" or answer.startswith("error "):
                    self.assertEqual(state(book), before)
                word = answer if answer in ("ok", "same", "parted", "yes", "no", "unknown", "none") else answer[:5]
                counts[word] = counts.get(word, 0) + 1
            self.assertEqual([desk.log(), len(desk)], [log, 70])
        for word in ("ok", "same", "parted", "yes", "no", "unknown", "none", "error"):
            self.assertGreater(counts[word], 20, word)

    def test_the_interface(self):
        self.has_methods(Desk, {"__init__": "(self, book)", "say": "(self, line)", "__call__": "(self, line)", "log": "(self)", "__len__": "(self)",
                                "__repr__": "(self)"})
        self.assertIsInstance(vars(Desk)["book"], property)
        self.equals_nothing_of_another_kind(Desk(Book()), [Book(), []])


class Unknown79(Case):
    def desk(self):
        book = Book(4)
        book.run(("program", ONE), ("fact", "f", Equation(X, 1)), ("axiom", Equation(X, X)))
        book.do(("power", 8))
        book.undo()
        book.same("one", "one")
        return Desk(book)

    def answered(self, lines, answer):
        """Each of the lines has this answer, and changes nothing."""
        for line in lines:
            desk = self.desk()
            before = state(desk.book)
            self.assertEqual([desk(line), state(desk.book), desk.log()], [answer, before, [(line, answer)]], line)

    def test_lines_of_no_form(self):
        self.answered(["", " ", "  ", "\n", "undo it", "undo ", " undo", "redo ", "redo 1", "undo undo", "UNDO", "Undo", "undo\n", "sizes ", " sizes", "sizes x", "names ",
                       "names x", "name", "size", "book", "power", "axiom", "forgo", "fact", "drop", "same", "follows", "program one", "run", "nothing at all"], "unknown")

    def test_numbers(self):
        wrong = ["", " ", "02", "00", "-1", "+2", "2 ", " 2", "2 3", "x", "2x", "0x2", "1_0", "2.0", "2\n", "\n2", "1" * 32, "9" * 40, "0" * 31, "-", "one"]
        self.answered(["power " + number for number in wrong] + ["forgo " + number for number in wrong] + ["power  4", "forgo  0", "power2", "forgo0"], "unknown")
        self.answered(["power " + number for number in ("0", "1", "65", "100", "9" * 31, "1" + "0" * 30)], "error InvalidPower")
        self.answered(["forgo " + number for number in ("1", "2", "10", "9" * 31)], "error UnknownIndex")
        desk = self.desk()
        self.assertEqual([desk("power 2"), desk("power 64"), desk("forgo 0"), desk("forgo 0")], ["ok", "ok", "ok", "error UnknownIndex"])

    def test_words(self):
        self.answered(["drop", "drop ", "drop  one", "drop one ", "drop one two", " drop one", "drop  ", "drop f g"], "unknown")
        self.answered(["drop x", "drop ONE", "drop 1", "drop one\n", "drop \n", "drop =", "drop where", "drop fact"], "error UnknownName")
        self.answered(["same", "same ", "same one", "same one ", "same  one", "same one  one", "same one one ", "same one one one", " same one one", "same  "], "unknown")
        self.answered(["same one x", "same x one", "same one f", "same f f", "same 1 2", "same one one\n", "same \n \n"], "error UnknownName")

    def test_equations(self):
        wrong = ["", " ", "x", "x =", "x = ", " = x", "= x", "x == y", " x = y", "x  = y", "x = y ", "x=y", "x = y = z", "X = y", "(x + ) = y", "01 = 1", "x = \n",
                 "x = " + "1" * 32, "where = x"]
        self.answered(["axiom " + text for text in wrong] + ["follows " + text for text in wrong] + ["fact g " + text for text in wrong], "error InvalidText")
        self.answered(["axiom " + "-" * 60 + "x = 1", "follows x = " + "-" * 60 + "x", "fact g " + "-" * 60 + "x = 1", "fact g " + "-" * 99 + " = 1"], "error TooDeep")

    def test_facts(self):
        self.answered(["fact", "fact ", "fact g", "fact  ", "fact  x = 1", "fact  g x = 1", " fact g x = 1", "factg x = 1"], "unknown")
        self.answered(["fact g ", "fact g  ", "fact g  x = 1", "fact x = 1", "fact g h x = 1"], "error InvalidText")
        self.answered(["fact G x = 1", "fact 1 x = 1", "fact where x = 1", "fact g1 x = 1", "fact = x = 1", "fact abcdefghi x = 1", "fact g\n x = 1"], "error InvalidName")
        self.answered(["fact f x = 1", "fact one x = 1"], "error DuplicateName")
        # The equation is read before anything else is done.
        self.answered(["fact G x", "fact f x", "fact where ", "fact one x = "], "error InvalidText")

    def test_other_errors(self):
        book = Book(64)
        wide, none = Program("wide", ["x", "y", "z"], [], ["x"]), Program("none", [], [], [1])
        user = Program("user", [], [("call", ["x"], none, [])], ["x"])
        book.run(("program", wide), ("program", none), ("program", user), ("fact", "f", Equation(X + Y, Term.of("z"))))
        desk = Desk(book)
        before = state(book)
        for line, answer in (("same wide wide", "error TooMany"), ("same wide none", "error Unlike"), ("same none wide", "error Unlike"), ("drop none", "error InUse"),
                             ("axiom ((x + y) + z) = 0", "error TooMany"), ("follows x = 1", "error TooMany"), ("follows u = v", "error TooMany"),
                             ("redo", "error NothingLeft"), ("same user nope", "error UnknownName"), ("fact g x = 1", "ok")):
            self.assertEqual(desk(line), answer, line)
            if answer != "ok":
                self.assertEqual(state(book), before)
        book.undo()
        book.set_capacity(4)
        self.assertEqual([desk("fact g x = 1"), desk("fact f x = 1"), desk("undo"), desk("undo")],
                         ["error TooMany", "error DuplicateName", "ok", "error NothingLeft"])


class Questions82(Case):
    def test_between_changes(self):
        book = Book(4)
        book.run(("program", ONE), ("program", TWO))
        desk = Desk(book)
        chance = random.Random(5)
        for _ in range(150):
            book.do(("power", chance.choice([2, 3, 4, 7, 8, 16, 22])))
            if chance.random() < 0.4:
                desk(f"axiom {chance.choice(EQUATIONS[:3] + EQUATIONS[4:5]).text()}")
            if chance.random() < 0.4 and book.theory.axioms():
                desk("forgo 0")
            if chance.random() < 0.5:
                desk(f"fact f {chance.choice(EQUATIONS[:4]).text()}")
            if chance.random() < 0.5:
                desk(chance.choice(["undo", "undo", "drop f"]))
            programs = [book.program(name) for name in ("one", "two")] if "two" in book else []
            if programs:
                self.assertEqual(desk("same one two"), compare(book.theory, *programs).KIND)
                self.assertEqual(desk("same two one"), compare(book.theory, *programs[::-1]).KIND)
            goal = chance.choice(EQUATIONS[:5])
            self.assertEqual(desk(f"follows {goal.text()}"), "yes" if follows(book.theory, book.facts(), goal) else "no")
            self.assertEqual(desk("sizes"), " ".join(map(str, book.theory.sizes)) or "none")
            self.assertEqual(desk("names"), " ".join(book.names()) or "none")

    def test_an_entry_that_is_called_none(self):
        desk = Desk(Book())
        self.assertEqual([desk("names"), desk("fact none x = 1"), desk("names")], ["none", "ok", "none"])


if __name__ == "__main__":
    unittest.main()
