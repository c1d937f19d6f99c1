"""The whole interface: each name, parameter, attribute and property exists as written, where it is written."""

import importlib
import inspect
import unittest

from selfpower import errors
from selfpower.books import Book
from selfpower.comparing import Parted, Same, compare
from selfpower.deriving import Broken, Derived, any_follows, follows
from selfpower.desk import Desk
from selfpower.equations import Equation
from selfpower.fields import Field, field_sizes
from selfpower.middles import Between, Gap, middle
from selfpower.pages import page_text, read_page
from selfpower.points import count_points, led, point_of, points_of
from selfpower.programs import Program
from selfpower.seekers import Seeker
from selfpower.shapes import Blocked, Embedding, Shape, embed
from selfpower.solving import solutions, solve
from selfpower.tables import Table, count_tables, tables_of
from selfpower.telling import Hidden, Told, least_sets, told_by
from selfpower.terms import Term, is_name
from selfpower.theories import Theory
from selfpower.ways import ways
from selfpower.worlds import World
from selfpower.writing import term_of

X, Y = Term.of("x"), Term.of("y")
FOUR = Theory(4)
P = Program("p", ["x"], [("set", "x", X + 1)], ["x"])
FACT = Equation(X * X, Term.of("a"))

CONSTANTS = {"fields": {"SIZES": (2, 3, 4, 5, 7, 8, 9, 11, 13, 16, 17, 19, 23, 25, 27, 29, 31, 32, 37, 41, 43, 47, 49, 53, 59, 61, 64)},
             "points": {"MOST_POINTS": 6000}, "writing": {"MOST_WRITTEN": 100}, "books": {"MOST_ENTRIES": 20}}

FUNCTIONS = {
    "fields": {"field_sizes": "power"},
    "points": {"count_points": "size many", "points_of": "sizes many", "point_of": "size row", "led": "size row value"},
    "terms": {"is_name": "value"}, "tables": {"count_tables": "theory many", "tables_of": "theory program"}, "writing": {"term_of": "table"},
    "ways": {"ways": "theory program"}, "comparing": {"compare": "theory one other"},
    "deriving": {"follows": "theory facts goal", "any_follows": "theory facts *goals"},
    "solving": {"solve": "theory facts given sought", "solutions": "theory facts given sought size row"},
    "telling": {"told_by": "theory names shown wished", "least_sets": "theory names shown wished"}, "middles": {"middle": "theory facts goal"},
    "shapes": {"embed": "one other"}, "pages": {"page_text": "book", "read_page": "text"},
}

# Of each class: the parameters of its constructor (None where callers do not construct it), its methods, its static methods, its properties.
CLASSES = {
    "fields": {"Field": ("size", {
        "plus": "one other", "minus": "one other", "times": "one other", "raised": "one exponent", "turned": "one", "number": "value", "is_member": "value",
        "made": "*row", "embedding": "size", "__eq__": "other", "__repr__": ""}, {}, "")},
    "terms": {"Term": (None, {
        "raised": "exponent", "names": "", "depth": "", "filled": "**parts", "evaluate": "field given", "text": "", "__str__": "", "__eq__": "other",
        "__repr__": "", "__add__": "other", "__radd__": "other", "__sub__": "other", "__rsub__": "other", "__mul__": "other", "__rmul__": "other",
        "__neg__": "", "__pow__": "other"}, {"of": "value", "where": "one other first second", "read": "text"}, "")},
    "equations": {"Equation": ("one other", {"names": "", "text": "", "__str__": "", "holds": "field given", "__eq__": "other", "__repr__": ""}, {"read": "text"}, "")},
    "theories": {"Theory": ("power axioms", {
        "axioms": "", "field": "size", "points": "many", "with_axiom": "equation", "without": "index", "gives": "other", "text": "", "__len__": "", "__eq__": "other",
        "__repr__": ""}, {"read": "text"}, "power sizes")},
    "programs": {"Program": ("name inputs steps outputs", {
        "inputs": "", "steps": "", "outputs": "", "tests": "", "is_flat": "", "text": "", "__eq__": "other", "__repr__": ""}, {"read": "text *known"}, "name")},
    "worlds": {"World": ("*sizes", {
        "is_member": "value", "number": "value", "evaluate": "term given", "holds": "equation given", "run": "program *row", "trace": "program *row",
        "obeys": "theory", "__mul__": "other", "__len__": "", "__eq__": "other", "__repr__": ""}, {}, "sizes")},
    "tables": {"Table": ("theory names values", {
        "entries": "", "zeros": "", "lookup": "size row", "copied": "", "put": "point value", "raised": "exponent", "__getitem__": "at", "__setitem__": "at worth",
        "__contains__": "x", "__len__": "", "__iter__": "", "__add__": "other", "__radd__": "other", "__iadd__": "other", "__sub__": "other", "__rsub__": "other",
        "__isub__": "other", "__mul__": "other", "__rmul__": "other", "__imul__": "other", "__neg__": "", "__pow__": "other", "__invert__": "",
        "__eq__": "other", "__repr__": ""}, {"of": "theory names term", "ranked": "theory names rank"}, "theory variables rank")},
    "ways": {"Way": (None, {"__repr__": ""}, {}, "answers world row many")},
    "comparing": {"Comparison": (None, {"__bool__": "", "__repr__": ""}, {}, ""), "Same": ("pairs", {"holds": "theory one other"}, {}, "pairs"),
                  "Parted": ("world row", {"holds": "theory one other"}, {}, "world row")},
    "deriving": {"Answer": (None, {"__bool__": "", "__repr__": ""}, {}, ""), "Derived": ("factors", {"factors": "", "holds": "theory facts goal"}, {}, ""),
                 "Broken": ("world given", {"given": "", "holds": "theory facts goal"}, {}, "world")},
    "solving": {"Solution": (None, {"answer": "", "__bool__": "", "__repr__": ""}, {}, ""), "Solved": (None, {"general": ""}, {}, ""),
                "Unsolved": (None, {}, {}, "condition point")},
    "telling": {"Report": (None, {"__bool__": "", "__repr__": ""}, {}, ""), "Told": ("table", {}, {}, "table"),
                "Hidden": ("first second common", {}, {}, "first second common")},
    "middles": {"Between": ("strongest weakest", {"__repr__": ""}, {}, "strongest weakest"), "Gap": ("first second", {"__repr__": ""}, {}, "first second")},
    "shapes": {"Shape": ("counts", {"counts": "", "count": "size", "__add__": "other", "solutions": "facts sought", "__eq__": "other", "__repr__": ""},
                         {"of": "world"}, ""),
               "Embedding": ("amounts", {"amounts": "", "holds": "one other", "__bool__": ""}, {}, ""),
               "Blocked": ("kind sizes", {"holds": "one other", "__bool__": ""}, {}, "kind sizes")},
    "seekers": {"Seeker": ("theory size names", {"left": "", "see": "term value", "sure": "term", "undo": "", "seen": ""}, {}, "many")},
    "books": {"Book": ("power *, capacity", {
        "do": "command", "run": "*commands", "undo": "", "redo": "", "history": "", "tried": "*commands", "set_capacity": "value", "names": "*kinds",
        "program": "name", "fact": "name", "facts": "", "same": "one other", "kept": "", "follows": "goal", "solve": "given sought", "twin": "",
        "__contains__": "x", "__len__": "", "__eq__": "other", "__repr__": ""}, {}, "theory capacity busy counted")},
    "desk": {"Desk": ("book", {"say": "line", "log": "", "__call__": "line", "__len__": "", "__repr__": ""}, {}, "book")},
}

KINDS = {"comparing": {"Same": "same", "Parted": "parted"}, "deriving": {"Derived": "derived", "Broken": "broken"},
         "solving": {"Solved": "solved", "Unsolved": "unsolved"}, "telling": {"Told": "told", "Hidden": "hidden"}}

BASES = {"Same": "Comparison", "Parted": "Comparison", "Derived": "Answer", "Broken": "Answer", "Solved": "Solution", "Unsolved": "Solution",
         "Told": "Report", "Hidden": "Report"}

ERRORS = {"InvalidPower": "value", "InvalidSize": "value", "InvalidElement": "value", "InvalidName": "value", "InvalidNumber": "value", "InvalidTerm": "value",
          "InvalidEquation": "value", "InvalidStep": "path", "InvalidText": "at", "InvalidCommand": "word", "InvalidPage": "line", "DuplicateName": "value",
          "TooDeep": "limit", "TooMany": "limit", "Unlike": "", "Clash": "", "InUse": "user", "UnknownName": "value", "UnknownIndex": "value",
          "UnknownPoint": "value", "NothingLeft": ""}


def parameters(call):
    """The names of the parameters, with the stars ahead of them."""
    marks = {inspect.Parameter.VAR_POSITIONAL: "*", inspect.Parameter.VAR_KEYWORD: "**"}
    words = []
    for name, parameter in inspect.signature(call).parameters.items():
        if parameter.kind == inspect.Parameter.KEYWORD_ONLY:
            words.append("*,")
        words.append(marks.get(parameter.kind, "") + name)
    return " ".join(words)


def module(name):
    return importlib.import_module("selfpower." + name)


class Interface(unittest.TestCase):
    def test_constants_and_functions(self):
        for name, constants in CONSTANTS.items():
            for constant, value in constants.items():
                found = getattr(module(name), constant)
                self.assertEqual([found, type(found)], [value, type(value)])
        for name, functions in FUNCTIONS.items():
            for function, text in functions.items():
                found = getattr(module(name), function)
                self.assertEqual([parameters(found), found.__module__, inspect.isfunction(found)], [text, "selfpower." + name, True], function)

    def test_classes(self):
        for name, classes in CLASSES.items():
            for made, (constructor, plain, static, properties) in classes.items():
                found = getattr(module(name), made)
                self.assertEqual([found.__module__, inspect.isclass(found)], ["selfpower." + name, True])
                if constructor is not None:
                    self.assertEqual(parameters(found), constructor, made)
                for method, text in plain.items():
                    self.assertIn(method, vars(found), made)
                    self.assertEqual(parameters(getattr(found, method)), f"self {text}".strip(), (made, method))
                for method, text in static.items():
                    self.assertIsInstance(vars(found)[method], staticmethod)
                    self.assertEqual(parameters(getattr(found, method)), text, (made, method))
                for asked in properties.split():
                    self.assertIsInstance(vars(found)[asked], property, (made, asked))
                self.assertEqual(found.__bases__[0].__name__, BASES.get(made, "object"))

    def test_class_values(self):
        for name, kinds in KINDS.items():
            for made, kind in kinds.items():
                self.assertEqual(vars(getattr(module(name), made))["KIND"], kind)
        self.assertEqual(vars(Book)["MOST"], 20)

    def test_defaults(self):
        self.assertEqual([Theory(3), Book()], [Theory(3, ()), Book(2, capacity=20)])
        self.assertEqual(inspect.signature(Theory).parameters["axioms"].default, ())
        self.assertEqual([inspect.signature(Book).parameters[name].default for name in ("power", "capacity")], [2, 20])

    def test_attributes(self):
        field, equation = Field(9), Equation(X, 1)
        self.assertEqual([field.size, field.prime, field.degree, equation.one, equation.other], [9, 3, 2, X, Term.of(1)])

    def test_errors(self):
        for name, text in ERRORS.items():
            found = getattr(errors, name)
            self.assertEqual([parameters(found), found.__module__], [text, "selfpower.errors"])
            above = errors.PowerError
            if name == "NothingLeft":
                above = IndexError
            if name.startswith("Unknown"):
                above = errors.Missing
            self.assertEqual(found.__bases__, (above,))
        self.assertEqual([errors.PowerError.__bases__, errors.Missing.__bases__], [(ValueError,), (LookupError,)])


def flat(value, depth=0):
    """What is to be compared of any value: the parts of objects of the package, down to plain values."""
    if isinstance(value, (list, tuple)):
        return [type(value).__name__] + [flat(item, depth + 1) for item in value]
    if isinstance(value, dict):
        return {str(flat(key)): flat(item, depth + 1) for key, item in value.items()}
    if type(value).__module__.startswith("selfpower") and depth < 12:
        return [type(value).__name__, flat(vars(value), depth + 1)]
    return value


# For each entry an object or a call, and the arguments by name, in the order of the interface.
CALLS = [
    (field_sizes, {"power": 7}), (Field, {"size": 9}), (Field(9).plus, {"one": 5, "other": 7}), (Field(9).minus, {"one": 5, "other": 7}),
    (Field(9).times, {"one": 5, "other": 7}), (Field(9).raised, {"one": 5, "exponent": 3}), (Field(9).turned, {"one": 5}), (Field(9).number, {"value": 11}),
    (Field(9).is_member, {"value": 8}), (Field(9).embedding, {"size": 3}),
    (count_points, {"size": 4, "many": 2}), (points_of, {"sizes": [2, 4], "many": 1}), (point_of, {"size": 16, "row": (7,)}),
    (led, {"size": 16, "row": (7,), "value": 3}), (is_name, {"value": "x"}), (Term.of, {"value": 3}),
    (Term.where, {"one": "x", "other": 1, "first": Y, "second": 2}), (Term.read, {"text": "(x + 1)"}), (X.raised, {"exponent": 3}),
    (X.evaluate, {"field": Field(7), "given": {"x": 3}}), (Equation, {"one": X, "other": 1}), (Equation.read, {"text": "x = 1"}),
    (Equation(X, 1).holds, {"field": Field(7), "given": {"x": 3}}), (Theory, {"power": 4, "axioms": [Equation(X, X)]}), (FOUR.field, {"size": 4}),
    (FOUR.points, {"many": 1}), (FOUR.with_axiom, {"equation": Equation(X, X)}), (Theory(4, [Equation(X, X)]).without, {"index": 0}),
    (FOUR.gives, {"other": Theory(7)}), (Theory.read, {"text": "power 4"}), (Program, {"name": "p", "inputs": ["x"], "steps": [], "outputs": ["x"]}),
    (World(2, 4).is_member, {"value": (1, 3)}), (World(2, 4).number, {"value": 3}), (World(2).evaluate, {"term": X, "given": {"x": (1,)}}),
    (World(2).holds, {"equation": Equation(X, 1), "given": {"x": (1,)}}), (World(2).obeys, {"theory": FOUR}),
    (Table, {"theory": FOUR, "names": ["x"], "values": [0, 1, 3]}), (Table.of, {"theory": FOUR, "names": ["x"], "term": X}),
    (Table.ranked, {"theory": FOUR, "names": ["x"], "rank": 9}), (Table.of(FOUR, ["x"], X).lookup, {"size": 4, "row": (3,)}),
    (Table.of(FOUR, ["x"], X).put, {"point": (4, (2,)), "value": 3}), (Table.of(FOUR, ["x"], X).raised, {"exponent": 2}),
    (count_tables, {"theory": FOUR, "many": 1}), (tables_of, {"theory": FOUR, "program": P}), (term_of, {"table": Table.of(FOUR, ["x"], X)}),
    (ways, {"theory": FOUR, "program": P}), (compare, {"theory": FOUR, "one": P, "other": P}), (Same, {"pairs": 1}), (Parted, {"world": World(2), "row": ((1,),)}),
    (Same(1).holds, {"theory": FOUR, "one": P, "other": P}), (Parted(World(2), ((1,),)).holds, {"theory": FOUR, "one": P, "other": P}),
    (Derived, {"factors": []}), (Broken, {"world": World(2), "given": {"x": (1,)}}), (Derived([]).holds, {"theory": FOUR, "facts": [], "goal": Equation(X, X)}),
    (Broken(World(2), {"x": (1,)}).holds, {"theory": FOUR, "facts": [], "goal": Equation(X, 0)}), (follows, {"theory": FOUR, "facts": [], "goal": Equation(X, X)}),
    (solve, {"theory": FOUR, "facts": [FACT], "given": ["a"], "sought": ["x"]}),
    (solutions, {"theory": FOUR, "facts": [FACT], "given": ["a"], "sought": ["x"], "size": 4, "row": (2,)}),
    (told_by, {"theory": FOUR, "names": ["x"], "shown": [X], "wished": X + 1}), (least_sets, {"theory": FOUR, "names": ["x"], "shown": [X], "wished": X + 1}),
    (Told, {"table": Table.of(FOUR, ["a"], Term.of("a"))}), (Hidden, {"first": (2, (0,)), "second": (2, (1,)), "common": None}),
    (middle, {"theory": FOUR, "facts": [Equation(X, 1)], "goal": Equation(X * X, 1)}),
    (Between, {"strongest": Table.of(FOUR, ["x"], X), "weakest": Table.of(FOUR, ["x"], X)}), (Gap, {"first": (2, ()), "second": (4, ())}),
    (Shape, {"counts": [(2, 1)]}), (Shape([(2, 1)]).count, {"size": 2}), (Shape([(2, 1)]).solutions, {"facts": [FACT], "sought": ["x", "a"]}),
    (Shape.of, {"world": World(2, 4)}), (Embedding, {"amounts": [(2, 4, 1)]}), (Blocked, {"kind": "none", "sizes": (4,)}),
    (Embedding([(2, 4, 1)]).holds, {"one": Shape([(2, 1)]), "other": Shape([(4, 1)])}),
    (Blocked("none", (4,)).holds, {"one": Shape([(8, 1)]), "other": Shape([(4, 1)])}), (embed, {"one": Shape([(2, 1)]), "other": Shape([(4, 1)])}),
    (Seeker, {"theory": FOUR, "size": 4, "names": ["x"]}), (Seeker(FOUR, 4, ["x"]).see, {"term": X, "value": 2}), (Seeker(FOUR, 4, ["x"]).sure, {"term": X ** 0}),
    (Book, {"power": 4}), (Book().do, {"command": ("power", 4)}), (Book().set_capacity, {"value": 4}), (Book(4).follows, {"goal": Equation(X, X)}),
    (Book(4).solve, {"given": [], "sought": ["x"]}), (page_text, {"book": Book(4)}), (read_page, {"text": "power 4\n"}), (Desk(Book()).say, {"line": "sizes"}),
    (Desk(Book()), {"line": "sizes"}), (Desk(Book(4)).say, {"line": "names"}),
]


class ByName(unittest.TestCase):
    def test_by_name_and_by_position(self):
        for call, named in CALLS:
            first = flat(call(**named))
            self.assertEqual(flat(call(*named.values())), first, call)
            turned = dict(reversed(list(named.items())))
            self.assertEqual(flat(call(**turned)), first, call)
            # The first one by position, the others by name.
            names = list(named)
            self.assertEqual(flat(call(named[names[0]], **{name: named[name] for name in names[1:]})), first, call)

    def test_names_of_the_calls_are_those_of_the_interface(self):
        tried = {parameters(call) for call, _ in CALLS}
        for functions in FUNCTIONS.values():
            for function, text in functions.items():
                self.assertIn(text, tried | {"theory facts *goals"}, function)

    def test_a_book(self):
        book = Book(power=4, capacity=7)
        book.do(command=("program", P))
        book.do(command=("fact", "f", FACT))
        self.assertEqual([book.program(name="p"), book.fact(name="f"), book.same(one="p", other="p").KIND, book.capacity], [P, FACT, "same", 7])

    def test_the_others_by_position_alone(self):
        read = Program.read("program q\ninputs x\nx = call p x\noutputs x", P)
        self.assertEqual([Field(4).made(1, 2), World(2, 4).run(P, (1, 2)), World(4).trace(P, (2,)), read.inputs()], [4, ((0, 3),), ((), ((3,),)), ["x"]])
        index, answer = any_follows(FOUR, [], Equation(X, 1), Equation(X, X))
        self.assertEqual([index, bool(answer), X.filled(x=3).text(), Book().names("fact")], [1, True, "3", []])

    def test_errors(self):
        for name, text in ERRORS.items():
            made = getattr(errors, name)
            for value in (3, "x", (1, 2), None, [1, "x"]):
                arguments = {text: value} if text else {}
                for error in (made(**arguments), made(*arguments.values())):
                    attributes = {key: item for key, item in vars(error).items() if key != "code"}
                    self.assertEqual([attributes, error.code], [arguments, name])


if __name__ == "__main__":
    unittest.main()
