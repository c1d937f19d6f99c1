"""Trees: what stands behind terms.

A tree is a tuple (sign, mark, parts, depth, many). The mark is the name, the number or the exponent, otherwise None.
The parts are a list of trees. The depth tells how deep the tree is nested, and many how many parts its term has.
Trees are made first and measured afterwards, as too deep goes ahead of too many for a term as a whole.
"""

from selfpower.errors import TooDeep, TooMany
from selfpower.values import number_text

NAME = "name"
NUMBER = "number"
OPPOSITE = "-"
SUM = " + "
DIFFERENCE = " - "
PRODUCT = " * "
POWER = " ** "
CHOICE = "where"

MOST_DEPTH = 60
MOST_PARTS = 40000
MOST_EXPONENT = 10 ** 30


def leaf(sign, mark):
    """The tree of a name or a number."""
    return (sign, mark, [], 1, 1)


def joined(sign, parts, mark=None):
    """The tree with these trees as its parts."""
    depth = 1 + max([part[3] for part in parts])
    many = 1 + sum([part[4] for part in parts])
    return (sign, mark, parts, depth, many)


def measured(tree):
    """The tree itself, unless it is nested too deep or has too many parts."""
    if tree[3] > MOST_DEPTH:
        raise TooDeep(MOST_DEPTH)
    if tree[4] > MOST_PARTS:
        raise TooMany(MOST_PARTS)
    return tree


def tree_text(tree):
    """The text of the term with a tree."""
    sign, mark, parts, _, _ = tree
    if sign == NAME:
        return mark
    if sign == NUMBER:
        return number_text(mark)
    texts = [tree_text(part) for part in parts]
    if sign == OPPOSITE:
        return f"-{texts[0]}"
    if sign == POWER:
        return f"({texts[0]} ** {mark})"
    if sign == CHOICE:
        between = ", ".join(texts)
        return f"where({between})"
    return f"({texts[0]}{sign}{texts[1]})"


def tree_names(tree):
    """The ascending list of the names in a tree, each once."""
    found = {}
    waiting = [tree]
    while waiting:
        sign, mark, parts, _, _ = waiting.pop()
        if sign == NAME:
            found[mark] = True
        waiting.extend(parts)
    return sorted(found)


def filled_tree(tree, fillings):
    """The tree with the trees of a dict in place of the names that are its keys."""
    sign, mark, parts, _, _ = tree
    if sign == NAME:
        return fillings.get(mark, tree)
    if sign == NUMBER:
        return tree
    return joined(sign, [filled_tree(part, fillings) for part in parts], mark)


def tree_column(tree, field, columns, many):
    """The list of the values of a tree in a field, for so many rows of elements.

    The columns are a dict from each name to the list of its elements in these rows.
    """
    sign, mark, parts, _, _ = tree
    if sign == NAME:
        return columns[mark]
    if sign == NUMBER:
        return [field.number(mark)] * many
    found = [tree_column(part, field, columns, many) for part in parts]
    if sign == OPPOSITE:
        return [field.minus(0, value) for value in found[0]]
    if sign == POWER:
        return [field.raised(value, mark) for value in found[0]]
    if sign == CHOICE:
        return [first if one == other else second for one, other, first, second in zip(*found)]
    return joined_columns(sign, field, found[0], found[1])


def joined_columns(sign, field, one, other):
    """The list of the sums, differences or products of the elements of two lists."""
    if sign == SUM:
        return [field.plus(a, b) for a, b in zip(one, other)]
    if sign == DIFFERENCE:
        return [field.minus(a, b) for a, b in zip(one, other)]
    return [field.times(a, b) for a, b in zip(one, other)]
