"""Names, and terms: what is computed from elements with names."""

from selfpower.errors import InvalidNumber, InvalidTerm, InvalidText, TooDeep, UnknownName
from selfpower.trees import CHOICE, DIFFERENCE, MOST_DEPTH, MOST_EXPONENT, NAME, NUMBER, OPPOSITE, POWER, PRODUCT, SUM
from selfpower.trees import filled_tree, joined, leaf, measured, tree_column, tree_names, tree_text
from selfpower.values import DIGITS, is_whole, number_in, run_end

LETTERS = "abcdefghijklmnopqrstuvwxyz"
MOST_LETTERS = 8

RESERVED = ("where", "repeat", "if", "else", "end", "inputs", "outputs", "call", "program", "power", "axiom")


def is_name(value):
    """Whether any value is a name."""
    if not isinstance(value, str) or value in RESERVED:
        return False
    return 1 <= len(value) <= MOST_LETTERS and run_end(value, 0, LETTERS) == len(value)


def is_term(value):
    """Whether any value stands for a term: a Term, a whole number or a name."""
    return isinstance(value, Term) or is_whole(value) or is_name(value)


def number_tree(number):
    """The tree of a whole number."""
    if number < 0:
        return joined(OPPOSITE, [leaf(NUMBER, -number)])
    return leaf(NUMBER, number)


def tree_of(value):
    """The tree of any value that stands for a term."""
    if is_name(value):
        return leaf(NAME, value)
    return side_tree(value)


def side_tree(value):
    """The tree of any value that may stand beside the sign of a term: a Term or a whole number."""
    if isinstance(value, Term):
        return value.tree
    if is_whole(value):
        return number_tree(value)
    raise InvalidTerm(value)


def read_tree(text, at, depth):
    """The tree that is nested so deep and is written from a place of a text on, and the place behind it."""
    if depth > MOST_DEPTH:
        raise TooDeep(MOST_DEPTH)
    if text.startswith("-", at):
        part, at = read_tree(text, at + 1, depth + 1)
        return joined(OPPOSITE, [part]), at
    if text.startswith("(", at):
        return read_joined(text, at + 1, depth)
    if text.startswith("where(", at):
        return read_choice(text, at + 6, depth)
    end = run_end(text, at, LETTERS)
    if end > at:
        if not is_name(text[at:end]):
            raise InvalidText(0)
        return leaf(NAME, text[at:end]), end
    number, end = read_number(text, at)
    return leaf(NUMBER, number), end


def read_number(text, at):
    """The whole number from a place of a text on, and the place behind it."""
    end = run_end(text, at, DIGITS)
    number = number_in(text[at:end])
    if number is None:
        raise InvalidText(0)
    return number, end


def read_joined(text, at, depth):
    """The tree of a sum, difference, product or power, as read_tree, from the place behind its bracket on."""
    one, at = read_tree(text, at, depth + 1)
    if text.startswith(POWER, at):
        exponent, at = read_number(text, at + 4)
        if exponent > MOST_EXPONENT:
            raise InvalidText(0)
        return joined(POWER, [one], exponent), behind(text, at, ")")
    sign = text[at:at + 3]
    if sign not in (SUM, DIFFERENCE, PRODUCT):
        raise InvalidText(0)
    other, at = read_tree(text, at + 3, depth + 1)
    return joined(sign, [one, other]), behind(text, at, ")")


def read_choice(text, at, depth):
    """The tree of a choice, as read_tree, from the place behind its bracket on."""
    parts = []
    for following in (", ", ", ", ", ", ")"):
        part, at = read_tree(text, at, depth + 1)
        at = behind(text, at, following)
        parts.append(part)
    return joined(CHOICE, parts), at


def behind(text, at, word):
    """The place behind a word, which has to stand at a place of a text."""
    if not text.startswith(word, at):
        raise InvalidText(0)
    return at + len(word)


class Term:
    """A term. It is made by the static methods and by signs, not by the constructor."""

    def __init__(self, tree):
        self.tree = measured(tree)

    @staticmethod
    def of(value):
        """The term of a name or a whole number; an equal term for a Term."""
        return Term(tree_of(value))

    @staticmethod
    def where(one, other, first, second):
        """The term that chooses the first of two terms if two others are equal, otherwise the second."""
        return Term(joined(CHOICE, [tree_of(value) for value in (one, other, first, second)]))

    @staticmethod
    def read(text):
        """The term with a text."""
        if not isinstance(text, str):
            raise InvalidText(0)
        tree, end = read_tree(text, 0, 1)
        if end < len(text):
            raise InvalidText(0)
        return Term(tree)

    def __add__(self, other):
        return Term(joined(SUM, [self.tree, side_tree(other)]))

    def __radd__(self, other):
        return Term(joined(SUM, [side_tree(other), self.tree]))

    def __sub__(self, other):
        return Term(joined(DIFFERENCE, [self.tree, side_tree(other)]))

    def __rsub__(self, other):
        return Term(joined(DIFFERENCE, [side_tree(other), self.tree]))

    def __mul__(self, other):
        return Term(joined(PRODUCT, [self.tree, side_tree(other)]))

    def __rmul__(self, other):
        return Term(joined(PRODUCT, [side_tree(other), self.tree]))

    def __neg__(self):
        return Term(joined(OPPOSITE, [self.tree]))

    def __pow__(self, other):
        return self.raised(other)

    def __eq__(self, other):
        return isinstance(other, Term) and self.text() == other.text()

    def __str__(self):
        return str(self.text())

    def __repr__(self):
        return f"Term({self.text()})"

    def raised(self, exponent):
        """The power of the term by an exponent."""
        if not is_whole(exponent) or not 0 <= exponent <= MOST_EXPONENT:
            raise InvalidNumber(exponent)
        return Term(joined(POWER, [self.tree], exponent))

    def text(self):
        """The text of the term."""
        return tree_text(self.tree)

    def names(self):
        """The ascending list of the names in the term, each once."""
        return tree_names(self.tree)

    def depth(self):
        """How deep the term is nested."""
        return self.tree[3]

    def filled(self, **parts):
        """The term with the terms that are passed by their names in place of these names, all at once."""
        return Term(filled_tree(self.tree, {name: tree_of(parts[name]) for name in self.names() if name in parts}))

    def evaluate(self, field, given):
        """The value of the term in a field, for a dict from names to elements."""
        names = self.names()
        for name in names:
            if name not in given:
                raise UnknownName(name)
        return self.column(field, {name: [given[name]] for name in names}, 1)[0]

    def column(self, field, columns, many):
        """The list of the values of the term in a field, for so many rows of elements.

        The columns are a dict from each name to the list of its elements in these rows.
        """
        return tree_column(self.tree, field, columns, many)
