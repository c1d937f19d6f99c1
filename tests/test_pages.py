import unittest

from selfpower.books import Book
from selfpower.equations import Equation
from selfpower.errors import InvalidPage
from selfpower.pages import page_text, read_page
from selfpower.programs import Program
from selfpower.terms import Term
from tests import program_oracle, term_oracle
from tests.book_oracle import Chance, PlainBook, expected, is_name, told
from tests.checks import Case
from tests.oracle import NO_NUMBERS

X, Y = Term.of("x"), Term.of("y")

ONE = Program("one", ["x"], [], ["x"])
USER = Program("user", ["x"], [("test", "x", 0, [("call", ["x"], ONE, [X + 1])], [("repeat", 3, [("set", "x", X * X)])])], ["x", 7])

PAGE = """power 4
axiom (x + x) = 0
axiom x = (x ** 4)
program one
inputs x
outputs x
fact f (x * y) = 1
program user
inputs x
if x = 0
x = call one (x + 1)
else
repeat 3
x = (x * x)
end
end
outputs x ; 7
fact g 0 = a
"""


def first_wrong(text):
    """The index of the first line at which a page cannot go on, None for a page: line by line, by the words of the document."""
    if "\n" not in text:
        return 0
    lines = text.split("\n")
    if lines.pop() != "":
        return len(lines)
    head, _, number = lines[0].partition(" ")
    if head != "power" or number not in [str(power) for power in range(2, 65)]:
        return 0
    at, names, programs = 1, [], []
    while at < len(lines) and lines[at].startswith("axiom "):
        if not is_equation(lines[at][6:]):
            return at
        at += 1
    while at < len(lines):
        words = lines[at].split(" ")
        if words[0] == "fact" and len(words) > 1:
            equation = lines[at][6 + len(words[1]):]
            if len(words) < 3 or not is_name(words[1]) or not is_equation(equation) or words[1] in names or len(names) == 20:
                return at
            names.append(words[1])
            at += 1
        elif lines[at].startswith("program "):
            end = at
            while end < len(lines) and not lines[end].startswith("outputs "):
                end += 1
            rest = lines[at:end + 1]
            wrong = program_oracle.first_wrong("\n".join(rest), [program.name for program in programs])
            if wrong is not None:
                return at + wrong
            program = told(Program.read, "\n".join(rest), *programs)
            if not isinstance(program, Program) or program.name in names or len(names) == 20:
                return end
            names.append(program.name)
            programs.append(program)
            at = end + 1
        else:
            return at
    return None


def is_equation(text):
    one, sign, other = text.partition(" = ")
    return bool(sign) and term_oracle.is_text(one) and term_oracle.is_text(other)


class Pages(Case):
    def book(self):
        book = Book(4)
        book.run(("axiom", Equation(X + X, 0)), ("axiom", Equation(X, X ** 4)), ("program", ONE), ("fact", "f", Equation(X * Y, 1)), ("program", USER),
                 ("fact", "g", Equation(0, Term.of("a"))))
        return book

    def test_there_and_back(self):
        book = self.book()
        self.assertEqual([page_text(book), read_page(PAGE) == book, page_text(read_page(PAGE))], [PAGE, True, PAGE])
        self.assertEqual([page_text(book=book), read_page(text=PAGE)], [PAGE, book])
        read = read_page(PAGE)
        self.assertEqual([read.capacity, read.history(), read.kept(), read.counted, read.busy, len(read)], [20, (0, 0), [], 0, False, 4])
        self.assertEqual([read.program("user"), read.fact("g"), read.theory], [USER, Equation(0, Term.of("a")), book.theory])

    def test_small_pages(self):
        self.assertEqual([page_text(Book()), page_text(Book(64))], ["power 2\n", "power 64\n"])
        self.assertEqual([read_page("power 2\n"), read_page("power 64\n")], [Book(), Book(64)])
        book = Book(7)
        book.do(("program", Program("p", [], [], [1])))
        self.assertEqual(page_text(book), "power 7\nprogram p\ninputs\noutputs 1\n")
        self.assertEqual(read_page("power 7\nprogram p\ninputs\noutputs 1\n"), book)

    def test_order_of_the_entries(self):
        book = self.book()
        book.run(("drop", "f"), ("fact", "f", Equation(X * Y, 1)))
        self.assertEqual(page_text(book).split("\n")[-2], "fact f (x * y) = 1")
        self.assertNotEqual(read_page(page_text(book)), self.book())
        self.assertEqual(read_page(page_text(book)).names(), ["one", "user", "g", "f"])

    def test_what_is_not_on_the_page(self):
        book = self.book()
        book.same("one", "one")
        book.undo()
        book.redo()
        book.set_capacity(4)
        self.assertEqual(page_text(book), PAGE)
        before = [book.history(), book.kept(), book.capacity]
        page_text(book)
        self.assertEqual([book.history(), book.kept(), book.capacity], before)
        read = read_page(page_text(book))
        self.assertEqual([read.history(), read.kept(), read.capacity], [(0, 0), [], 20])
        read.do(("drop", "g"))
        self.assertEqual([len(read), len(book), read.history()], [3, 4, (1, 0)])

    def test_twenty_entries(self):
        lines = ["power 3"] + ["fact f" + letter + " x = 1" for letter in "abcdefghijklmnopqrst"]
        read = read_page("\n".join(lines) + "\n")
        self.assertEqual([len(read), page_text(read)], [20, "\n".join(lines) + "\n"])
        self.refused(InvalidPage, 21, read_page, "\n".join(lines + ["fact h x = 1", ""]))
        self.refused(InvalidPage, 23, read_page, "\n".join(lines + ["program p", "inputs", "outputs 1", ""]))

    def test_drawn_books(self):
        for seed in range(120):
            draws, book, plain = Chance(seed), Book(), PlainBook()
            for _ in range(15):
                command = draws.command(plain)
                told(book.do, command)
                expected(plain.do, command)
            self.assertEqual(page_text(book), plain.page())
            read = read_page(plain.page())
            self.assertEqual([read, page_text(read)], [book, plain.page()])
            self.assertIsNone(first_wrong(plain.page()))


class NoPages(Case):
    def wrong(self, line, *lines):
        self.refused(InvalidPage, line, read_page, "\n".join(lines))

    def test_no_strings_and_no_line_feed(self):
        for value in NO_NUMBERS + [0, 7, Book(), ["power 2\n"], ("power 2", ""), X, "power 2", "axiom", " ", "power"]:
            self.refused(InvalidPage, 0, read_page, value)

    def test_no_line_feed_at_the_end(self):
        # The line without it goes ahead of all others.
        self.wrong(1, "power 2", "fact f x = 1")
        self.wrong(1, "power 1", "fact f x = 1")
        self.wrong(3, "", "", "", "x")
        self.wrong(2, "power 2", "nonsense", " ")
        self.refused(InvalidPage, len(PAGE.split("\n")) - 2, read_page, PAGE[:-1])

    def test_the_power(self):
        for line in ("", "power", "power ", "power 1", "power 65", "power 02", "power +2", "power -2", "power 2 ", "power  2", " power 2", "Power 2", "power x",
                     "power 2 3", "axiom x = x", "fact f x = 1", "program p", "power " + "1" * 31, "power " + "1" * 32):
            self.wrong(0, line, "")
            self.wrong(0, line, "nonsense", "")

    def test_lines_that_are_none_of_these(self):
        for line in ("", " ", "nonsense", "power 2", "axiom", "fact", "program", "inputs x", "outputs x", "end", "axiomx = x", "fact f", "fact f ", "fact f  x = 1",
                     "fact  f x = 1", "fact F x = 1", "fact f x", "fact f x =1", "fact f x = ", "fact f  = 1", "fact where x = 1", "facts f x = 1", " fact f x = 1",
                     "fact f x = 1 ", "x = 1", "program", "programs p", "fact abcdefghi x = 1"):
            self.wrong(1, "power 3", line, "")
            self.wrong(2, "power 3", "fact g x = 1", line, "nonsense", "")
            self.wrong(4, "power 3", "program p", "inputs", "outputs 1", line, "")

    def test_axioms(self):
        deep = "-" * 60 + "x"
        for line in ("axiom ", "axiom x", "axiom x = ", "axiom  x = x", "axiom x = x = x", "axiom X = x", f"axiom {deep} = x", f"axiom x = {deep}", "axiom 01 = 1"):
            self.wrong(1, "power 3", line, "")
            self.wrong(2, "power 3", "axiom x = x", line, "nonsense", "")
        # An axiom behind an entry cannot stand there.
        self.wrong(2, "power 3", "fact f x = 1", "axiom x = x", "")
        self.wrong(4, "power 3", "program p", "inputs", "outputs 1", "axiom x = x", "")

    def test_axioms_with_too_many_points(self):
        self.wrong(2, "power 64", "axiom x = x", "axiom ((x + y) + z) = x", "axiom nonsense", "")
        self.wrong(1, "power 61", "axiom ((x + y) + (z * u)) = x", "fact f", "")
        # The sizes are those of the power, also if an axiom ahead leaves none.
        self.wrong(2, "power 64", "axiom 0 = 1", "axiom ((x + y) + z) = x", "")
        self.assertEqual(read_page("power 64\naxiom 0 = 1\naxiom (x + y) = x\n").theory.sizes, ())

    def test_facts_that_are_refused(self):
        self.wrong(2, "power 3", "fact f x = 1", "fact f x = 2", "")
        self.wrong(4, "power 3", "program f", "inputs", "outputs 1", "fact f x = 2", "nonsense", "")
        deep = "-" * 60 + "x"
        self.wrong(1, "power 3", f"fact f {deep} = 1", "")
        self.wrong(1, "power 3", "fact f x = " + "-" * 100, "")

    def test_programs_that_end_early(self):
        self.wrong(2, "power 3", "program p", "")
        self.wrong(3, "power 3", "program p", "inputs", "")
        self.wrong(4, "power 3", "program p", "inputs x", "x = 1", "")
        self.wrong(6, "power 3", "fact f x = 1", "program p", "inputs x", "repeat 2", "x = 1", "")
        # The rest of the page is the program's, up to the first wrong line.
        self.wrong(3, "power 3", "program p", "inputs x", "fact f x = 1", "")
        self.wrong(3, "power 3", "program p", "inputs x", "program q", "inputs", "outputs 1", "")
        self.wrong(3, "power 3", "program p", "inputs x", "", "outputs x", "")
        self.wrong(4, "power 3", "program p", "inputs x", "repeat 2", "outputs x", "end", "outputs x", "")
        self.wrong(2, "power 3", "program p", "outputs x", "inputs x", "outputs x", "")

    def test_wrong_lines_of_programs(self):
        for line in ("x = ", "x = y z", "repeat x", "repeat -1", "if x", "x y = 1", "x = call other", "x = call user", "where = 1", "end", "else", "outputs"):
            self.wrong(3, "power 3", "program p", "inputs x", line, "x = 1", "outputs x", "")
            self.wrong(9, *PAGE.split("\n")[:9], line, *PAGE.split("\n")[9:])
        self.wrong(1, "power 3", "program 1", "inputs x", "outputs x", "")
        self.wrong(1, "power 3", "program p q", "inputs x", "outputs x", "")
        self.wrong(1, "power 3", "program ", "inputs x", "outputs x", "")
        self.wrong(2, "power 3", "program p", "inputs X", "outputs x", "")
        self.wrong(3, "power 3", "program p", "inputs x", "outputs ", "")
        self.wrong(3, "power 3", "program p", "inputs x", "outputs x; 1", "")

    def test_calls_of_programs_that_stand_behind_or_are_facts(self):
        lines = ["power 3", "program p", "inputs x", "x = call q x", "outputs x", "program q", "inputs x", "outputs x", ""]
        self.wrong(3, *lines)
        self.assertEqual(read_page("\n".join(lines[:1] + lines[5:8] + lines[1:5] + [""])).names(), ["q", "p"])
        self.wrong(4, "power 3", "fact q x = 1", *lines[1:])
        self.wrong(3, *lines[:3], "x = call p x", *lines[4:])

    def test_programs_refused_otherwise(self):
        for head, steps, outputs in (
                ("inputs x x", [], "outputs x"), ("inputs x y z u v", [], "outputs x"), ("inputs x", ["y = z"], "outputs x"), ("inputs x", [], "outputs y"),
                ("inputs x", [], "outputs " + " ; ".join("1234567")), ("inputs x", ["x = 1"] * 61, "outputs x"),
                ("inputs x", ["if x = 0", "else", "end"] * 7, "outputs x"), ("inputs x", ["repeat 2", "y = 1", "end"], "outputs x"),
                ("inputs x", ["x x = call one x"], "outputs x")):
            lines = ["power 3", "program one", "inputs x", "outputs x", "program p", head] + steps + [outputs]
            self.wrong(len(lines) - 1, *lines, "nonsense", "")
            self.wrong(len(lines) - 1, *lines, "")
        # A name that occurs earlier is looked at behind the lines, and told at the last one.
        self.wrong(3, "power 3", "fact p x = 1", "program p", "inputs X", "outputs x", "")
        self.wrong(4, "power 3", "fact p x = 1", "program p", "inputs x", "outputs x", "")
        self.wrong(6, "power 3", "program p", "inputs", "outputs 1", "program p", "inputs x", "outputs x", "")

    def bent(self, text):
        """Nothing but InvalidPage is raised, with the line that a second look tells."""
        wrong = first_wrong(text)
        if wrong is None:
            self.assertEqual(page_text(read_page(text)), text)
        else:
            self.refused(InvalidPage, wrong, read_page, text)
        return wrong is None

    def test_a_line_more_or_less_or_twice(self):
        lines = PAGE.split("\n")
        for at in range(len(lines)):
            self.bent("\n".join(lines[:at] + lines[at + 1:]))
            self.bent("\n".join(lines[:at] + [lines[at]] + lines[at:]))
            for other in sorted(set(lines)) + ["nonsense", "outputs 1", "inputs", "axiom x = x", "fact h x = 1", "program h", "power 3"]:
                self.bent("\n".join(lines[:at] + [other] + lines[at:]))
                self.bent("\n".join(lines[:at] + [other] + lines[at + 1:]))

    def test_a_character_more_or_less_or_twice(self):
        pages = 0
        for at in range(len(PAGE)):
            pages += self.bent(PAGE[:at] + PAGE[at + 1:])
            pages += self.bent(PAGE[:at] + PAGE[at] + PAGE[at:])
            for sign in " \nx1(=;":
                pages += self.bent(PAGE[:at] + sign + PAGE[at:])
                pages += self.bent(PAGE[:at] + sign + PAGE[at + 1:])
        self.assertGreater(pages, 100)


if __name__ == "__main__":
    unittest.main()
