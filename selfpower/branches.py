"""Branches: all that the tests of a program can answer on the points of a theory.

Sets of points are masks: whole numbers with the bit 1 at the places of their points. A branch is a tuple (answers,
alive, fails, outputs): the answers of the tests, the mask of the points at which all passed tests hold, a mask for each
failed test of those of them at which it fails, and the list of the tuples of the outputs at all points. What the
outputs are at points that are not alive does not matter.
"""

from selfpower.runs import started
from selfpower.worlds import World


def mask_of(flags):
    """The mask of the places of a list of flags at which they are True."""
    bits = "".join(["1" if flag else "0" for flag in flags[::-1]])
    return int(f"0{bits}", 2)


def count_of(mask):
    """How many points a mask has."""
    bits = f"{mask:b}"
    return bits.count("1")


def least_place(mask):
    """The least place of the points of a mask that has any."""
    return (mask & -mask).bit_length() - 1


def are_possible(alive, fails):
    """Whether a world can have all answers: there are points alive, among them one for each failed test."""
    return alive != 0 and all([fail & alive != 0 for fail in fails])


def witnesses(alive, fails):
    """The ascending list of the places of points alive, among them one for each failed test, and at least one."""
    places = [least_place(fail & alive) for fail in fails]
    if not places:
        places = [least_place(alive)]
    return sorted(set(places))


def world_and_row(points, many):
    """The world with these points, which are a list, and its row of so many elements."""
    sizes = [size for size, _ in points]
    row = tuple([tuple([items[place] for _, items in points]) for place in range(many)])
    return World(*sizes), row


def branches(grid, program):
    """The list of the possible branches of a program, for the points of a grid as inputs.

    Of two of them, the one with True at the first place where their answers differ goes first.
    """
    alive = mask_of([True] * len(grid.fields))
    if alive == 0:
        return []
    return explored(started(program, grid.lanes), (), alive, [])


def explored(run, answers, alive, fails):
    """The list of the possible branches that go on from a run with what was answered so far."""
    if not run.advance():
        return [(answers, alive, fails, run.outputs())]
    held = mask_of(run.flags()) & alive
    found = []
    if are_possible(held, fails):
        fork = run.forked()
        fork.take(True)
        found.extend(explored(fork, answers + (True,), held, [fail & held for fail in fails]))
    if held != alive:
        run.take(False)
        found.extend(explored(run, answers + (False,), alive, fails + [alive - held]))
    return found
