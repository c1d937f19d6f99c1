"""Pages: the texts of books."""

from selfpower.books import MOST_ENTRIES, book_with
from selfpower.commands import FACT, PROGRAM, behind_command
from selfpower.equations import equation_at
from selfpower.errors import InvalidPage, InvalidText, PowerError, TooMany
from selfpower.fields import field_sizes
from selfpower.points import check_count
from selfpower.programs import Program
from selfpower.theories import Theory, axiom_in, power_in


def page_text(book):
    """The page of a book."""
    lines = [book.theory.text()]
    for name in book.names():
        if name in book.names(PROGRAM):
            lines.append(book.program(name).text())
        else:
            lines.append(f"fact {name} {book.fact(name).text()}")
    return "".join([f"{line}\n" for line in lines])


def read_page(text):
    """The book with a page."""
    lines = lines_in(text)
    power = read_power(lines[0])
    axioms = read_axioms(lines, field_sizes(power))
    theory = Theory(power, axioms)
    entries = {}
    at = 1 + len(axioms)
    while at < len(lines):
        command, last = read_entry(lines, at, entries)
        try:
            _, entries = behind_command(theory, entries, command, MOST_ENTRIES)
        except PowerError:
            raise InvalidPage(last) from None
        at = last + 1
    return book_with(theory, entries)


def lines_in(text):
    """The list of the lines of any value, each of which has to end with a line feed."""
    if not isinstance(text, str) or "\n" not in text:
        raise InvalidPage(0)
    lines = text.split("\n")
    if lines[-1] != "":
        raise InvalidPage(len(lines) - 1)
    return lines[:-1]


def read_power(line):
    """The power that the first line tells."""
    try:
        return power_in(line)
    except InvalidText:
        raise InvalidPage(0) from None


def read_axioms(lines, sizes):
    """The list of the axioms in the lines behind the first one, for the sizes of the power."""
    axioms = []
    for at in range(1, len(lines)):
        if not lines[at].startswith("axiom "):
            return axioms
        try:
            axiom = axiom_in(lines[at], at)
            check_count(sizes, len(axiom.names()))
        except (InvalidText, TooMany):
            raise InvalidPage(at) from None
        axioms.append(axiom)
    return axioms


def read_entry(lines, at, entries):
    """The command that makes the entry from a line on, behind other entries, and the index of its last line."""
    line = lines[at]
    if line.startswith("program "):
        return read_program(lines, at, entries)
    if not line.startswith("fact "):
        raise InvalidPage(at)
    name, _, text = line.removeprefix("fact ").partition(" ")
    try:
        return (FACT, name, equation_at(text, at)), at
    except InvalidText:
        raise InvalidPage(at) from None


def read_program(lines, at, entries):
    """The command that makes a program, as read_entry."""
    last = at
    while last + 1 < len(lines) and not lines[last].startswith("outputs "):
        last = last + 1
    known = [entry for entry in entries.values() if isinstance(entry, Program)]
    try:
        return (PROGRAM, Program.read("\n".join(lines[at:last + 1]), *known)), last
    except InvalidText as error:
        raise InvalidPage(at + error.at) from None
    except PowerError:
        raise InvalidPage(last) from None
