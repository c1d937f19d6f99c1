"""Terms once more, as plain tuples and strings, straight from the words of the document.

A model is a name, a whole number from 0 on, or a tuple of a sign and its parts; that of a power has its exponent last.
"""

import random
import re

from selfpower.terms import Term
from tests import oracle

NAMES = ["x", "y", "z", "abcdefgh", "fact"]

NUMBERS = [0, 1, 2, 3, 10, 64, 10 ** 30, 10 ** 31 - 1]

EXPONENTS = [0, 1, 2, 3, 5, 64, 10 ** 30 - 1, 10 ** 30]

RESERVED = "where repeat if else end inputs outputs call program power axiom".split()


def model_of(seed, depth):
    """A model that is nested at most so deep."""
    return _model(random.Random(seed), depth)


def _model(chance, depth):
    kind = chance.choice(["name", "name", "number", "-", "+", "-", "*", "**", "where"])
    if depth == 1 or kind in ("name", "number"):
        return chance.choice(NUMBERS) if kind == "number" else chance.choice(NAMES)
    if kind == "-" and chance.random() < 0.5:
        return ("-", _model(chance, depth - 1))
    if kind == "**":
        return ("**", _model(chance, depth - 1), chance.choice(EXPONENTS))
    return (kind, *[_model(chance, depth - 1) for _ in range(4 if kind == "where" else 2)])


def parts(model):
    if not isinstance(model, tuple):
        return []
    return list(model[1:2] if model[0] == "**" else model[1:])


def text(model):
    if not isinstance(model, tuple):
        return str(model)
    texts = [text(part) for part in parts(model)]
    if model[0] == "where":
        return "where(" + ", ".join(texts) + ")"
    if model[0] == "**":
        return "(" + texts[0] + " ** " + str(model[2]) + ")"
    return "-" + texts[0] if len(texts) == 1 else "(" + texts[0] + " " + model[0] + " " + texts[1] + ")"


def depth(model):
    return 1 + max([depth(part) for part in parts(model)], default=0)


def names(model):
    if isinstance(model, str):
        return {model}
    return {name for part in parts(model) for name in names(part)}


def filled(model, fillings):
    if isinstance(model, str):
        return fillings.get(model, model)
    if isinstance(model, int):
        return model
    return (model[0], *[filled(part, fillings) for part in parts(model)], *(model[2:] if model[0] == "**" else ()))


def power(size, item, exponent):
    """The power of an element, by exponents that are halved."""
    if exponent == 0:
        return 1
    half = power(size, item, exponent // 2)
    square = oracle.times(size, half, half)
    return oracle.times(size, square, item) if exponent % 2 else square


def value(model, size, given):
    if isinstance(model, str):
        return given[model]
    if isinstance(model, int):
        return model % oracle.FIELDS[size][0]
    found = [value(part, size, given) for part in parts(model)]
    if model[0] == "where":
        return found[2] if found[0] == found[1] else found[3]
    if model[0] == "**":
        return power(size, found[0], model[2])
    if len(found) == 1:
        return oracle.minus(size, 0, found[0])
    return {"+": oracle.plus, "-": oracle.minus, "*": oracle.times}[model[0]](size, *found)


def made(model):
    """The Term of a model, by signs and static methods."""
    if not isinstance(model, tuple):
        return Term.of(model)
    found = [made(part) for part in parts(model)]
    if model[0] == "where":
        return Term.where(*found)
    if model[0] == "**":
        return found[0] ** model[2]
    if len(found) == 1:
        return -found[0]
    one, other = found
    return {"+": lambda: one + other, "-": lambda: one - other, "*": lambda: one * other}[model[0]]()


NUMBER = r"(?:0|[1-9][0-9]{0,30})"


def is_text(text):
    """Whether a string is the text of a term, by taking one term after the other out of it: T stands for one."""
    if not re.fullmatch(r"[a-z0-9()+*, -]*", text):
        return False
    runs = re.findall(r"[a-z0-9]+", text)
    if any(len(run) > (31 if run.isdigit() else 8) and run.isascii() for run in runs):
        return False
    text = re.sub(r" \*\* (" + NUMBER + r")\)", lambda found: " E)" if int(found[1]) <= 10 ** 30 else "?", text)
    text = re.sub(r"where\(", "W(", text)
    text = re.sub(r"\b([a-z]+)\b", lambda found: "?" if found[1] in RESERVED else "T", text)
    text = re.sub(r"\b" + NUMBER + r"\b", "T", text)
    before = None
    while text != before:
        before = text
        text = re.sub(r"W\(T, T, T, T\)|\(T [+*-] T\)|\(T E\)|(?<![A-Z) ])-T|(?<=[+*,-] )-T", "T", text)
    return text == "T"
