"""Programs written otherwise (promise 93): flat programs with calls put in, repeats written out, terms put in, with other
names, and read from their texts; all of them return the same."""

import itertools
import random
import unittest

from selfpower.books import Book
from selfpower.comparing import compare
from selfpower.desk import Desk
from selfpower.errors import PowerError
from selfpower.pages import page_text, read_page
from selfpower.programs import Program
from selfpower.tables import tables_of
from selfpower.terms import Term
from selfpower.theories import Theory
from selfpower.ways import ways
from selfpower.worlds import World
from tests.run_oracle import Maker

THEORIES = [Theory(2), Theory(3), Theory(4), Theory(5), Theory(7), Theory(8), Theory(9), Theory(22)]

LETTERS = "abcdefghijklmnopqrstuvwxyz"


def written_out(steps):
    """The steps with all repeats, of few times, written out."""
    found = []
    for step in steps:
        if step[0] == "repeat":
            found.extend(written_out(step[2]) * step[1])
        else:
            found.append(step)
    return found


def filled(term, known):
    """A term with terms in the place of its names, which may be called anything."""
    return term.filled(**{name: known[name] for name in term.names()})


def put_in(steps, known, fresh):
    """Steps without calls and repeats that set only new names; the dict tells which name now has the value of which.

    All names ahead of these steps must be in the dict.
    """
    found = []
    for step in written_out(steps):
        if step[0] == "set":
            name = next(fresh)
            found.append(("set", name, filled(step[2], known)))
            known[step[1]] = name
        else:
            inner = {}
            for place, term in zip(step[2].inputs(), step[3]):
                inner[place] = next(fresh)
                found.append(("set", inner[place], filled(term, known)))
            found.extend(put_in(step[2].steps(), inner, fresh))
            for name, term in zip(step[1], step[2].outputs()):
                target = next(fresh)
                found.append(("set", target, filled(term, inner)))
                known[name] = target
    return found


def names():
    return ("v" + one + other for one in LETTERS for other in LETTERS)


def without_calls(program):
    """The program with calls put in and repeats written out."""
    known = {name: name for name in program.inputs()}
    steps = put_in(program.steps(), known, names())
    return Program(program.name, program.inputs(), steps, [filled(term, known) for term in program.outputs()])


def terms_alone(program):
    """The program with all terms put into its outputs."""
    flat = without_calls(program)
    known = {name: Term.of(name) for name in flat.inputs()}
    for _, name, term in flat.steps():
        known[name] = filled(term, known)
    return Program(program.name, program.inputs(), [], [filled(term, known) for term in flat.outputs()])


def renamed_steps(steps, new):
    """The steps with other names, those of called programs left as they are."""
    found = []
    for step in steps:
        if step[0] == "set":
            found.append(("set", new[step[1]], filled(step[2], new)))
        elif step[0] == "call":
            found.append(("call", [new[name] for name in step[1]], step[2], [filled(term, new) for term in step[3]]))
        elif step[0] == "repeat":
            found.append(("repeat", step[1], renamed_steps(step[2], new)))
        else:
            found.append(("test", filled(step[1], new), filled(step[2], new), renamed_steps(step[3], new), renamed_steps(step[4], new)))
    return found


def renamed(program, chance):
    """The program with other names, by chance; names may change their places."""
    pool = ["a", "b", "c", "d", "u", "v", "long", "namesake"] + [program.name]
    chance.shuffle(pool)
    new = dict(zip(["a", "b", "c", "d", "u", "v"], pool))
    return Program("other", [new[name] for name in program.inputs()], renamed_steps(program.steps(), new), [filled(term, new) for term in program.outputs()])


def flat_by(seed):
    """A flat program with calls and repeats of few times, and the programs that it calls."""
    maker = Maker(seed)
    maker.repeat = lambda changed, known, depth: ("repeat", maker.chance.randrange(4), [("set", maker.chance.choice(changed), maker.term(known, 2))])
    inner = maker.flat("inner", 1, 1)
    middle = Program("middle", ["a", "b"], [("call", ["b"], inner, [Term.of("a") + 1]), ("repeat", 2, [("call", ["a"], inner, ["b"])])], ["a", maker.term(["a", "b"], 2)])
    many = 1 + seed % 2
    given = list("ab"[:many])
    steps = [("set", "u", maker.term(given, 2)), ("set", "v", 1)] + maker.steps(given + ["u", "v"], 0, 3, [inner, middle])
    steps += [("repeat", 1 + seed % 3, [("call", ["u", "v"], middle, ["v", "u"])])]
    return [inner, middle], Program("p", given, steps, [maker.term(given + ["u", "v"], 2) for _ in range(1 + seed % 2)])


class Otherwise(unittest.TestCase):
    def forms(self, seed):
        """A flat program, and all other ways to write it that are not too long."""
        known, program = flat_by(seed)
        forms = {"read": Program.read(program.text(), *known), "renamed": renamed(program, random.Random(seed))}
        for name, change in (("without calls", without_calls), ("terms alone", terms_alone)):
            try:
                forms[name] = change(program)
            except PowerError:
                # It has too many steps, or its terms are too deep or too long.
                continue
            forms[name + ", renamed"] = renamed_form(forms[name], seed)
            forms[name + ", read"] = Program.read(forms[name].text())
        return known, program, forms

    def test_all_forms_return_the_same(self):
        counts = {}
        for seed in range(96):
            theory = THEORIES[seed % len(THEORIES)]
            known, program, forms = self.forms(seed)
            expected = [table.entries() for table in tables_of(theory, program)]
            for name, form in forms.items():
                counts[name] = counts.get(name, 0) + 1
                self.assertTrue(form.is_flat())
                self.assertEqual([table.entries() for table in tables_of(theory, form)], expected, name)
                for one, other in ((program, form), (form, program)):
                    found = compare(theory, one, other)
                    self.assertEqual([found.KIND, found.pairs], ["same", 1], name)
            self.assertEqual(forms["read"], program)
            self.run_them(theory, program, forms, random.Random(seed))
        for name in ("read", "renamed", "without calls", "terms alone", "terms alone, renamed", "without calls, read"):
            self.assertGreater(counts[name], 25, name)

    def run_them(self, theory, program, forms, chance):
        sizes = [chance.choice(theory.sizes) for _ in range(3)]
        world = World(*sizes)
        for _ in range(4):
            row = [tuple(chance.randrange(size) for size in sizes) for _ in program.inputs()]
            expected = world.run(program, *row)
            for name, form in forms.items():
                self.assertEqual([world.run(form, *row), world.trace(form, *row)], [expected, ((), expected)], name)

    def test_one_that_is_bent_does_not(self):
        parted = 0
        for seed in range(60):
            theory = THEORIES[seed % len(THEORIES)]
            _, program, forms = self.forms(seed)
            form = forms.get("terms alone", forms["renamed"])
            bent = Program("bent", form.inputs(), form.steps(), [form.outputs()[0] + 1] + form.outputs()[1:])
            self.assertEqual(compare(theory, program, bent).KIND, "parted")
            parted += 1
        self.assertEqual(parted, 60)

    def test_with_tests(self):
        """Other names and texts, and calls of a program in the place of its steps, change no answer of a test either."""
        for seed in range(60):
            theory = THEORIES[seed % 6]
            maker = Maker(seed)
            known = [maker.flat("f", 1, 1), maker.program("h", 1, 1, 2)]
            program = maker.program("p", 1 + seed % 2, 2, 4, known)
            outer = Program("outer", program.inputs(), [("set", "y", 0), ("set", "z", 0), ("call", ["y", "z"], program, program.inputs())], ["y", "z"])
            forms = [Program.read(program.text(), *known), renamed(program, random.Random(seed)), outer, Program.read(outer.text(), program)]
            answers = [way.answers for way in ways(theory, program)]
            for form in forms:
                self.assertEqual([way.answers for way in ways(theory, form)], answers)
                found = compare(theory, program, form)
                self.assertEqual([found.KIND, found.pairs], ["same", len(answers)])
                sizes = [theory.sizes[place % len(theory.sizes)] for place in range(2)]
                for row in itertools.islice(itertools.product(itertools.product(*map(range, sizes)), repeat=len(program.inputs())), 0, 200, 7):
                    self.assertEqual(World(*sizes).trace(form, *row), World(*sizes).trace(program, *row))

    def test_in_books_and_on_pages(self):
        for seed in range(30):
            known, program, forms = self.forms(seed)
            book = Book(4)
            book.run(*[("program", other) for other in known], ("program", program))
            if "terms alone" in forms:
                form = forms["terms alone"]
                book.do(("program", Program("plain", form.inputs(), form.steps(), form.outputs())))
                for other in (book, read_page(page_text(book)), book.twin()):
                    self.assertEqual([Desk(other)("same p plain"), Desk(other)("same plain p"), other.same("p", "plain").pairs], ["same", "same", 1])


def renamed_form(program, seed):
    """A program without calls, with other names of seven letters and one, in another order."""
    found = sorted(set(program.inputs()) | {step[1] for step in program.steps()})
    new = {name: "n" + LETTERS[(place * 7 + seed) % 26] + LETTERS[place // 26] for place, name in enumerate(found)}
    return Program("new", [new[name] for name in program.inputs()], renamed_steps(program.steps(), new), [filled(term, new) for term in program.outputs()])


if __name__ == "__main__":
    unittest.main()
