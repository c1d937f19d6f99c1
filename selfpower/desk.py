"""Desks: they answer lines about a book."""

from selfpower.commands import AXIOM, DROP, FACT, FORGO, POWER
from selfpower.equations import Equation
from selfpower.errors import Missing, NothingLeft, PowerError
from selfpower.theories import sizes_text
from selfpower.values import number_in

DONE = "ok"
UNKNOWN = "unknown"


def answer_to(book, line):
    """The answer to a line about a book, unless an error is raised."""
    word, space, rest = line.partition(" ")
    if not space:
        return answer_to_word(book, word)
    if word == "same":
        return answer_of_same(book, rest.split(" "))
    if word == "follows":
        return "yes" if book.follows(Equation.read(rest)) else "no"
    command = command_in(word, rest)
    if command is None:
        return UNKNOWN
    book.do(command)
    return DONE


def answer_to_word(book, word):
    """The answer to a line of one word."""
    if word == "sizes":
        return sizes_text(book.theory.sizes)
    if word == "names":
        return " ".join(book.names()) if len(book) > 0 else "none"
    if word == "undo":
        book.undo()
        return DONE
    if word == "redo":
        book.redo()
        return DONE
    return UNKNOWN


def answer_of_same(book, names):
    """The answer whether programs with these names, which have to be two words, return the same."""
    if len(names) != 2 or "" in names:
        return UNKNOWN
    return book.same(names[0], names[1]).KIND


def command_in(word, rest):
    """The command that the first word of a line and the rest tell; None if they tell none."""
    if word in (POWER, FORGO):
        number = number_in(rest)
        return None if number is None else (word, number)
    if word == AXIOM:
        return (word, Equation.read(rest))
    if word == FACT:
        name, space, text = rest.partition(" ")
        return (word, name, Equation.read(text)) if name and space else None
    if word == DROP and rest and " " not in rest:
        return (word, rest)
    return None


class Desk:
    """A desk at a book."""

    def __init__(self, book):
        self._book = book
        self._log = []

    @property
    def book(self):
        """The very book."""
        return self._book

    def __call__(self, line):
        return self.say(line)

    def __len__(self):
        return len(self._log)

    def __repr__(self):
        return f"Desk({len(self._log)} lines)"

    def say(self, line):
        """The answer to a line."""
        try:
            answer = answer_to(self._book, line)
        except (PowerError, Missing, NothingLeft) as error:
            answer = f"error {error.code}"
        self._log.append((line, answer))
        return answer

    def log(self):
        """The list of the pairs of a line and its answer."""
        return list(self._log)
