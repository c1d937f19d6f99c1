"""Reads the texts of programs, line by line."""

from selfpower.equations import equation_at
from selfpower.errors import InvalidText, TooDeep, TooMany
from selfpower.steps import BETWEEN_TERMS, CALL, MOST_NESTED, MOST_TIMES, REPEAT, SET, TEST
from selfpower.terms import Term, is_name
from selfpower.values import number_in


def term_at(text, at):
    """The term with a text that stands at a line."""
    try:
        return Term.read(text)
    except (InvalidText, TooDeep, TooMany):
        raise InvalidText(at) from None


def terms_at(text, at):
    """The list of the terms that stand at a line, one or more."""
    return [term_at(part, at) for part in text.split(BETWEEN_TERMS)]


def names_at(words, at):
    """These very words of a line, which have to be names."""
    for word in words:
        if not is_name(word):
            raise InvalidText(at)
    return words


def line_at(lines, at):
    """The line with an index."""
    if at >= len(lines):
        raise InvalidText(at)
    return lines[at]


def words_at(lines, at, word):
    """The list of the names in a line that begins with a word."""
    words = line_at(lines, at).split(" ")
    if words[0] != word:
        raise InvalidText(at)
    return names_at(words[1:], at)


def read_listing(text, known):
    """The name, inputs, steps and outputs in the text of a program, for a dict of the programs that may be called."""
    if not isinstance(text, str):
        raise InvalidText(0)
    lines = text.split("\n")
    heads = words_at(lines, 0, "program")
    if len(heads) != 1:
        raise InvalidText(0)
    inputs = words_at(lines, 1, "inputs")
    steps = []
    at = 2
    while not line_at(lines, at).startswith("outputs "):
        step, at = read_step(lines, at, 1, known)
        steps.append(step)
    outputs = terms_at(lines[at].removeprefix("outputs "), at)
    if at + 1 < len(lines):
        raise InvalidText(at + 1)
    return heads[0], inputs, steps, outputs


def read_block(lines, at, depth, known, closing):
    """The list of the steps that are nested so deep, from a line up to a closing one, and the index behind this."""
    steps = []
    while line_at(lines, at) != closing:
        step, at = read_step(lines, at, depth, known)
        steps.append(step)
    return steps, at + 1


def read_step(lines, at, depth, known):
    """The step that is nested so deep, from a line on, and the index of the line behind it."""
    line = lines[at]
    if depth > MOST_NESTED:
        raise InvalidText(at)
    if line.startswith("repeat "):
        times = number_in(line.removeprefix("repeat "))
        if times is None or times > MOST_TIMES:
            raise InvalidText(at)
        steps, at = read_block(lines, at + 1, depth + 1, known, "end")
        return (REPEAT, times, steps), at
    if line.startswith("if "):
        asked = equation_at(line.removeprefix("if "), at)
        steps, at = read_block(lines, at + 1, depth + 1, known, "else")
        others, at = read_block(lines, at, depth + 1, known, "end")
        return (TEST, asked.one, asked.other, steps, others), at
    return read_setting(line, at, known), at + 1


def read_setting(line, at, known):
    """The step of a line that sets names."""
    # In a line without the sign nothing stands behind it, and that is no term.
    left, _, right = line.partition(" = ")
    names = names_at(left.split(" "), at)
    if right.startswith("call "):
        called, space, texts = right.removeprefix("call ").partition(" ")
        if called not in known:
            raise InvalidText(at)
        # A space announces terms: behind it there has to be one.
        return (CALL, names, known[called], terms_at(texts, at) if space else [])
    if len(names) != 1:
        raise InvalidText(at)
    return (SET, names[0], term_at(right, at))
