"""Mappings: what flat programs and repeats make of rows of elements of a field.

The steps of a program are prepared for runs. Terms are as they are, but a call of a flat program becomes ("call",
names, routine, terms), a repeat ("repeat", names, loop, terms), where the names are those that it sets, and a call of
a program with tests ("enter", names, program, terms).
"""

from selfpower.steps import CALL, REPEAT, SET, TEST, names_read, names_set
from selfpower.terms import Term

ENTER = "enter"

# So many repeats are done one after the other, more of them by leaps.
FEW_TIMES = 16

# Looking for all rows that a repeat can come to takes memory for each row with which it begins.
ROWS_AT_ONCE = 100

# What was found is kept for so many rows of a field, or a few more.
MOST_KEPT = 100000


def rows_of(columns, many):
    """The list of the rows, so many, that have these columns."""
    if not columns:
        return [()] * many
    return list(zip(*columns))


def named_columns(names, rows):
    """A dict from each name to the list of its elements in rows."""
    return {name: [row[place] for row in rows] for place, name in enumerate(names)}


def ends_of(ahead, times):
    """A dict from each row to the one that is so many steps ahead, for a dict from each row to the next one."""
    rows = list(ahead)
    places = {row: place for place, row in enumerate(rows)}
    leaps = [places[ahead[row]] for row in rows]
    ends = list(range(len(rows)))
    while times > 0:
        if times % 2 == 1:
            ends = [leaps[end] for end in ends]
        leaps = [leaps[leap] for leap in leaps]
        times = times // 2
    return {row: rows[end] for row, end in zip(rows, ends)}


def prepared(steps, routines):
    """The list of the steps of a program, prepared for runs.

    The dict routines has the routines of flat programs that are known already; new ones are put into it.
    """
    found = []
    for step in steps:
        if step[0] == CALL:
            found.append(prepared_call(step, routines))
        elif step[0] == REPEAT:
            found.append(prepared_repeat(step, routines))
        elif step[0] == TEST:
            found.append((TEST, step[1], step[2], prepared(step[3], routines), prepared(step[4], routines)))
        else:
            found.append(step)
    return found


def prepared_call(step, routines):
    """A call, prepared for runs."""
    _, names, program, terms = step
    if not program.is_flat():
        return (ENTER, names, program, terms)
    # A program that is called in many places, or by programs that are, has one routine: it is run once for each row.
    key = tuple(program.rows)
    if key not in routines:
        routines[key] = Routine(program, routines)
    return (CALL, names, routines[key], terms)


def prepared_repeat(step, routines):
    """A repeat, prepared for runs: the names that it sets go ahead of those that it only reads."""
    _, times, inner = step
    changed = names_set(inner)
    names = changed + [name for name in names_read(inner) if name not in changed]
    return (REPEAT, changed, Loop(names, prepared(inner, routines), times), [Term.of(name) for name in names])


def do_steps(steps, field, columns, many):
    """Does prepared steps without tests in a field, for so many rows of elements.

    The columns are a dict from each name to the list of its elements in these rows; the steps change this dict. The
    steps of called programs and of repeats are done in the same loop, as they may stand in each other in any depth.
    """
    rounds = [Round(steps, columns, many)]
    calls = []
    while rounds[-1].waiting or calls:
        last = rounds[-1]
        if not last.waiting:
            rounds.pop()
            calls[-1].take(last)
        else:
            step = last.waiting.pop()
            if step[0] == SET:
                last.columns[step[1]] = step[2].column(field, last.columns, last.height)
                continue
            calls.append(Call(step, field, last))
        # The last call begins, or goes on behind one of its rounds.
        following = calls[-1].following()
        if following is None:
            calls.pop().end()
        else:
            rounds.append(following)


class Round:
    """Prepared steps that are being done once, for so many rows. They wait from the last one to the next one."""

    def __init__(self, steps, columns, many):
        self.waiting = steps[::-1]
        self.columns = columns
        self.height = many


class Call:
    """A prepared call or repeat that is being done, for the rows of a round around it."""

    def __init__(self, step, field, around):
        _, self._changed, self._mapping, terms = step
        self._field = field
        self._around = around
        self._rows = rows_of([term.column(field, around.columns, around.height) for term in terms], around.height)
        self._found = self._mapping.known(field, self._rows)
        self._fresh = list({row: True for row in self._rows if row not in self._found})
        self._work = self._mapping.work(self._fresh)

    def following(self):
        """The next round of steps; None if the images of all rows are found."""
        while self._fresh and not self._work.pending():
            images = self._work.images()
            for row in self._fresh:
                if row in images:
                    self._found[row] = images[row]
            self._mapping.keep(self._field, images)
            self._fresh = [row for row in self._fresh if row not in images]
            self._work = self._mapping.work(self._fresh)
        if not self._fresh:
            return None
        return self._mapping.begun(self._work.pending())

    def take(self, done):
        """Takes a round of steps that is done."""
        self._work.take(self._mapping.images_in(self._field, done))

    def end(self):
        """Puts the images into the columns of the names that are set."""
        for place, name in enumerate(self._changed):
            self._around.columns[name] = [self._found[given][place] for given in self._rows]


class Turns:
    """Steps that are done for different rows so many times, one after the other."""

    def __init__(self, rows, times):
        self._starts = rows
        self._images = rows
        self._left = times

    def pending(self):
        """The list of the rows for which the steps are done next; none at the end."""
        return self._images if self._left > 0 else []

    def take(self, images):
        """Takes the images of these rows."""
        self._images = images
        self._left = self._left - 1

    def images(self):
        """A dict from the rows to their images, at the end."""
        return {row: image for row, image in zip(self._starts, self._images)}


class Leaps:
    """Steps that are done for different rows so many times, where all rows that they lead to are looked for first."""

    def __init__(self, rows, times):
        self._ahead = {}
        self._rows = rows
        self._times = times

    def pending(self):
        """The list of the rows for which the steps are done next; none at the end."""
        return self._rows

    def take(self, images):
        """Takes the images of these rows."""
        for row, image in zip(self._rows, images):
            self._ahead[row] = image
        self._rows = list({following: True for following in images if following not in self._ahead})

    def images(self):
        """A dict from the rows, and all rows that they lead to, to their images, at the end."""
        return ends_of(self._ahead, self._times)


class Mapping:
    """What makes of each row of elements of a field its image, another one. Images are kept, as rows come again."""

    def __init__(self):
        self._kept = {}

    def known(self, field, rows):
        """A dict with those images of rows that are kept."""
        kept = self._kept.get(field.size, {})
        return {row: kept[row] for row in rows if row in kept}

    def keep(self, field, images):
        """Keeps the images in a dict."""
        kept = self._kept.setdefault(field.size, {})
        if len(kept) > MOST_KEPT:
            kept.clear()
        for row in images:
            kept[row] = images[row]


class Routine(Mapping):
    """A flat program: the image of a row of its inputs is the row of its outputs."""

    def __init__(self, program, routines):
        Mapping.__init__(self)
        self._program = program
        self._routines = routines
        self._steps = None

    def work(self, rows):
        """The work of finding the images of rows."""
        return Turns(rows, 1)

    def begun(self, rows):
        """The round of the steps for rows of inputs."""
        if self._steps is None:
            self._steps = prepared(self._program.steps(), self._routines)
        return Round(self._steps, named_columns(self._program.inputs(), rows), len(rows))

    def images_in(self, field, done):
        """The list of the images at the end of a round."""
        return rows_of([term.column(field, done.columns, done.height) for term in self._program.outputs()], done.height)


class Loop(Mapping):
    """Steps that are done again and again, so many times, for names: a row and its image have an element for each."""

    def __init__(self, names, steps, times):
        Mapping.__init__(self)
        self._names = names
        self._steps = steps
        self._times = times

    def work(self, rows):
        """The work of finding the images of rows, perhaps of some of them only."""
        if self._times > FEW_TIMES:
            return Leaps(rows[:ROWS_AT_ONCE], self._times)
        return Turns(rows, self._times)

    def begun(self, rows):
        """The round of the steps, done once, for rows."""
        return Round(self._steps, named_columns(self._names, rows), len(rows))

    def images_in(self, field, done):
        """The list of what the steps of a round, in a field, made of its rows."""
        return rows_of([done.columns[name] for name in self._names], done.height)
