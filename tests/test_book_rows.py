"""Long rows of drawn calls of books, their twins and their pages, against a plain second book (promises 68 to 74 and 90)."""

import unittest

from selfpower.books import Book
from selfpower.deriving import follows
from selfpower.pages import page_text, read_page
from selfpower.solving import solve
from tests.book_oracle import ANY, EQUATIONS, NAMES, Chance, PlainBook, expected, told


class Rows(unittest.TestCase):
    def compare(self, book, plain):
        """Everything that both tell is the same."""
        self.assertEqual([book.theory.text(), list(book.theory.sizes)], [plain.theory().text(), list(plain.theory().sizes)])
        self.assertEqual([book.names(), len(book), repr(book)], [plain.names(), len(plain.entries), f"Book({len(plain.entries)} entries)"])
        for kinds in (("program",), ("fact",), ("fact", "program"), ("other",), ("other", "fact")):
            self.assertEqual(book.names(*kinds), plain.names(*kinds))
        self.assertEqual([fact.text() for fact in book.facts()], [value.text() for kind, _, value in plain.entries if kind == "fact"])
        for kind, name, value in plain.entries:
            self.assertEqual(book.program(name) if kind == "program" else book.fact(name), value)
            self.assertIn(name, book)
        self.assertEqual([book.history(), book.capacity, book.busy], [(len(plain.past), len(plain.future)), plain.capacity, False])
        self.assertEqual([book.kept(), book.counted], [sorted(plain.kept), plain.counted])
        self.assertEqual(page_text(book), plain.page())

    def one_call(self, book, plain, draws):
        """A call of both, drawn by chance; returns its kind and whether it raised an error."""
        chance = draws.chance
        kind = chance.choice(["do"] * 6 + ["run", "run", "run", "tried", "undo", "undo", "redo", "redo", "same", "same", "same", "capacity", "assigned",
                                           "program", "fact"])
        if kind == "do":
            command = draws.command(plain)
            return kind, told(book.do, command), expected(plain.do, command)
        if kind in ("run", "tried"):
            commands = [draws.command(plain) for _ in range(chance.randrange(4))]
            return kind, told(getattr(book, kind), *commands), expected(getattr(plain, kind), *commands)
        if kind in ("undo", "redo"):
            return kind, told(getattr(book, kind)), expected(getattr(plain, kind))
        if kind == "same":
            names = plain.names("program") * 5 + NAMES
            pair = [chance.choice(ANY) if chance.random() < 0.05 else chance.choice(names) for _ in range(2)]
            found = told(book.same, *pair)
            return kind, found if isinstance(found, tuple) else found.KIND, expected(plain.same, *pair)
        if kind in ("capacity", "assigned"):
            value = chance.choice([len(plain.entries), len(plain.entries) + 1, 20, 20, 20, 0, 21, 1, None, True, "x"])
            call = book.set_capacity if kind == "capacity" else lambda worth: setattr(book, "capacity", worth)
            return kind, told(call, value), expected(plain.set_capacity, value)
        name = chance.choice(plain.names() * 3 + NAMES + ANY)
        wanted = [value for sort, other, value in plain.entries if (sort, other) == (kind, name)]
        return kind, told(getattr(book, kind), name), wanted[0] if wanted else ("UnknownName", name)

    def test_drawn_calls(self):
        counts, kinds = {}, []
        for seed in range(70):
            draws = Chance(seed)
            books = [(Book(), PlainBook())]
            for at in range(90):
                book, plain = draws.chance.choice(books)
                kind, found, wanted = self.one_call(book, plain, draws)
                self.assertEqual(found, wanted, (seed, at, kind))
                self.assertEqual(repr(found), repr(wanted), (seed, at, kind))
                counts[kind, isinstance(found, tuple)] = counts.get((kind, isinstance(found, tuple)), 0) + 1
                kinds.append(found)
                for book, plain in books:
                    self.compare(book, plain)
                if draws.chance.random() < 0.05 and len(books) < 3:
                    books.append((book.twin(), plain.twin()))
                    self.assertEqual(books[-1][0], book)
        for kind in ("do", "run", "undo", "redo", "same", "capacity", "assigned", "program", "fact"):
            self.assertGreater(min(counts[kind, True], counts[kind, False]), 10, kind)
        self.assertGreater(min(kinds.count("same"), kinds.count("parted")), 10)

    def test_questions_and_pages_between_them(self):
        asked = 0
        for seed in range(100, 130):
            draws = Chance(seed)
            book, plain = Book(4), PlainBook(4)
            for _ in range(40):
                self.one_call(book, plain, draws)
                self.compare(book, plain)
                facts = [value for kind, _, value in plain.entries if kind == "fact"]
                goal = draws.chance.choice(EQUATIONS)
                answer = told(book.follows, goal)
                wanted = told(follows, plain.theory(), facts, goal)
                self.assertEqual(answer if isinstance(answer, tuple) else answer.KIND, wanted if isinstance(wanted, tuple) else wanted.KIND)
                answer = told(book.solve, ["a"], ["x", "y"])
                wanted = told(solve, plain.theory(), facts, ["a"], ["x", "y"])
                self.assertEqual(answer if isinstance(answer, tuple) else answer.answer(), wanted if isinstance(wanted, tuple) else wanted.answer())
                asked += not isinstance(answer, tuple)
                self.compare(book, plain)
                self.go_on_from_the_page(book, plain, draws)
        self.assertGreater(asked, 300)

    def go_on_from_the_page(self, book, plain, draws):
        """The book with the page is an equal one, and goes on as this one does, but without steps."""
        other = read_page(page_text(book))
        self.assertEqual([other == book, other.history(), other.capacity, other.kept(), other.counted], [True, (0, 0), 20, [], 0])
        self.assertEqual(page_text(other), plain.page())
        second = PlainBook(plain.power)
        second.go(plain.state())
        for _ in range(2):
            _, found, wanted = self.one_call(other, second, draws)
            self.assertEqual(found, wanted)
            self.compare(other, second)


if __name__ == "__main__":
    unittest.main()
