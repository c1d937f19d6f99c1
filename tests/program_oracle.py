"""The lines of programs once more: which line of a text cannot stand where it stands."""

import re

from tests import term_oracle

NUMBER = re.compile(term_oracle.NUMBER)


def is_name(word):
    return re.fullmatch("[a-z]{1,8}", word) is not None and word not in term_oracle.RESERVED


def are_names(words):
    return all(is_name(word) for word in words)


def is_term(text):
    """Whether a text is that of a term; those of the tests are neither too deep nor too long."""
    return term_oracle.is_text(text)


def are_terms(text):
    return all(is_term(part) for part in text.split(" ; "))


def is_setting(line, known):
    """Whether a line sets names: with a term, or by a call of a program with one of the known names."""
    call = re.fullmatch("([a-z]+(?: [a-z]+)*) = call ([a-z]+)( .*)?", line)
    if call:
        return are_names(call[1].split(" ")) and call[2] in known and (call[3] is None or are_terms(call[3][1:]))
    put = re.fullmatch("([a-z]+) = (.*)", line)
    return bool(put) and is_name(put[1]) and is_term(put[2])


def is_asking(line):
    asked = re.fullmatch("if (.*?) = (.*)", line)
    return bool(asked) and is_term(asked[1]) and is_term(asked[2])


def is_repeating(line):
    word, _, times = line.partition(" ")
    return word == "repeat" and bool(NUMBER.fullmatch(times)) and int(times) <= 10 ** 30


def first_wrong(text, known):
    """The index of the first wrong line, the number of lines if one lacks, None for the text of a program."""
    lines = text.split("\n")
    waiting = []
    for at, line in enumerate(lines):
        words = line.split(" ")
        if at == 0:
            right = len(words) == 2 and words[0] == "program" and is_name(words[1])
        elif at == 1:
            right = words[0] == "inputs" and are_names(words[1:])
        elif waiting and line in waiting[-1]:
            right = True
            waiting[-1:] = [["end"]] if line == "else" else []
        elif not waiting and words[0] == "outputs":
            if line.startswith("outputs ") and are_terms(line[8:]):
                return None if at == len(lines) - 1 else at + 1
            right = False
        elif len(waiting) == 4:
            right = False
        elif is_repeating(line):
            right = True
            waiting.append(["end"])
        elif is_asking(line):
            right = True
            waiting.append(["else"])
        else:
            right = is_setting(line, known)
        if not right:
            return at
    return len(lines)
