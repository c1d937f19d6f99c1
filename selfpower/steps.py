"""Steps of programs that are known to be right: their counts, and their lines.

They are tuples, and so are all lists in them: ("set", name, term), ("call", names, program, terms),
("repeat", times, steps) and ("test", one, other, steps, others).
"""

SET = "set"
CALL = "call"
REPEAT = "repeat"
TEST = "test"

MOST_TIMES = 10 ** 30
MOST_NESTED = 4

BETWEEN_TERMS = " ; "


def spread(steps):
    """The list of the steps and of those within them, in the order of their lines."""
    found = []
    for step in steps:
        found.append(step)
        if step[0] == REPEAT:
            found.extend(spread(step[2]))
        if step[0] == TEST:
            found.extend(spread(step[3]))
            found.extend(spread(step[4]))
    return found


def called_by(steps):
    """The list of the programs that are called by steps and within them, one for each call."""
    return [step[2] for step in spread(steps) if step[0] == CALL]


def count_tests(steps):
    """How many tests steps have, those within them and those of called programs counted."""
    own = len([step for step in spread(steps) if step[0] == TEST])
    return own + sum([program.tests() for program in called_by(steps)])


def names_set(steps):
    """The ascending list of the names that steps, or steps within them, set."""
    found = {}
    for step in spread(steps):
        if step[0] == SET:
            found[step[1]] = True
        if step[0] == CALL:
            for name in step[1]:
                found[name] = True
    return sorted(found)


def names_read(steps):
    """The ascending list of the names in the terms of steps without tests, and of those within them."""
    found = {}
    for step in spread(steps):
        if step[0] == SET:
            for name in step[2].names():
                found[name] = True
        if step[0] == CALL:
            for term in step[3]:
                for name in term.names():
                    found[name] = True
    return sorted(found)


def terms_text(terms):
    """The text of some terms."""
    return BETWEEN_TERMS.join([term.text() for term in terms])


def call_line(names, program, terms):
    """The line of a call."""
    words = list(names) + ["=", "call", program.name]
    if terms:
        words.append(terms_text(terms))
    return " ".join(words)


def lines_of(steps):
    """The list of the lines of steps."""
    lines = []
    for step in steps:
        if step[0] == SET:
            lines.append(f"{step[1]} = {step[2].text()}")
        if step[0] == CALL:
            lines.append(call_line(step[1], step[2], step[3]))
        if step[0] == REPEAT:
            lines.extend([f"repeat {step[1]}"] + lines_of(step[2]) + ["end"])
        if step[0] == TEST:
            lines.extend([f"if {step[1].text()} = {step[2].text()}"] + lines_of(step[3]))
            lines.extend(["else"] + lines_of(step[4]) + ["end"])
    return lines
