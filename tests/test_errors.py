import unittest

from selfpower import errors
from selfpower.fields import Field, field_sizes
from selfpower.points import led, point_of
from tests.oracle import NO_NUMBERS

# The name of each error, what stands directly above it, and the parameters of its constructor.
ERRORS = [
    ("InvalidPower", "PowerError", ["value"]),
    ("InvalidSize", "PowerError", ["value"]),
    ("InvalidElement", "PowerError", ["value"]),
    ("InvalidName", "PowerError", ["value"]),
    ("InvalidNumber", "PowerError", ["value"]),
    ("InvalidTerm", "PowerError", ["value"]),
    ("InvalidEquation", "PowerError", ["value"]),
    ("InvalidStep", "PowerError", ["path"]),
    ("InvalidText", "PowerError", ["at"]),
    ("InvalidCommand", "PowerError", ["word"]),
    ("InvalidPage", "PowerError", ["line"]),
    ("DuplicateName", "PowerError", ["value"]),
    ("TooDeep", "PowerError", ["limit"]),
    ("TooMany", "PowerError", ["limit"]),
    ("Unlike", "PowerError", []),
    ("Clash", "PowerError", []),
    ("InUse", "PowerError", ["user"]),
    ("UnknownName", "Missing", ["value"]),
    ("UnknownIndex", "Missing", ["value"]),
    ("UnknownPoint", "Missing", ["value"]),
    ("NothingLeft", "IndexError", []),
]

BASES = {"PowerError": errors.PowerError, "Missing": errors.Missing, "IndexError": IndexError}


class ErrorClasses(unittest.TestCase):
    def test_each_stands_directly_below_one_class(self):
        for name, base, _ in ERRORS:
            with self.subTest(name):
                self.assertEqual(getattr(errors, name).__bases__, (BASES[base],))
        self.assertEqual(errors.PowerError.__bases__, (ValueError,))
        self.assertEqual(errors.Missing.__bases__, (LookupError,))

    def test_no_class_is_below_another_one_except_as_stated(self):
        classes = [getattr(errors, name) for name, _, _ in ERRORS]
        for one in classes:
            for other in classes:
                self.assertEqual(issubclass(one, other), one is other)
        self.assertFalse(issubclass(errors.NothingLeft, (errors.PowerError, errors.Missing)))

    def test_no_other_class_is_defined(self):
        defined = {name for name, value in vars(errors).items() if isinstance(value, type)}
        self.assertEqual(defined, {name for name, _, _ in ERRORS} | {"PowerError", "Missing"})

    def test_each_is_defined_in_this_file_with_its_own_constructor(self):
        for name, _, _ in ERRORS:
            self.assertEqual(getattr(errors, name).__module__, "selfpower.errors")
            self.assertIn("__init__", vars(getattr(errors, name)))


class ErrorObjects(unittest.TestCase):
    def test_the_code_is_the_name_of_the_class(self):
        for name, _, names in ERRORS:
            error = getattr(errors, name)(*["x"] * len(names))
            self.assertEqual(error.code, name)
            self.assertIs(type(error.code), str)

    def test_attributes_by_position_and_by_name(self):
        for name, _, names in ERRORS:
            for value in [6, 10 ** 30, (0, 1, 2)] + NO_NUMBERS:
                made = getattr(errors, name)
                for error in [made(*[value] * len(names)), made(**{key: value for key in names})]:
                    for key in names:
                        self.assertEqual(repr(getattr(error, key)), repr(value))
                    self.assertEqual(error.code, name)

    def test_constructors_take_no_other_arguments(self):
        for name, _, names in ERRORS:
            with self.assertRaises(TypeError):
                getattr(errors, name)(*[1] * (len(names) + 1))
            with self.assertRaises(TypeError):
                getattr(errors, name)(other=1)
            if names:
                with self.assertRaises(TypeError):
                    getattr(errors, name)()

    def test_the_message_can_be_read_whatever_the_value(self):
        for name, _, names in ERRORS:
            error = getattr(errors, name)(*[10 ** 9000] * len(names))
            self.assertIs(type(str(error)), str)
            self.assertTrue(str(error))

    def test_they_are_raised_and_caught(self):
        for name, base, names in ERRORS:
            with self.assertRaises(BASES[base]) as caught:
                raise getattr(errors, name)(*[1] * len(names))
            self.assertEqual(caught.exception.code, name)


class KeptValues(unittest.TestCase):
    def test_later_changes_of_a_list_do_not_change_the_error(self):
        for call in (field_sizes, Field, Field(16).embedding, lambda value: point_of(4, (value,)),
                     lambda value: led(4, (), value)):
            passed = [1, [2, 3], ("x", [4])]
            with self.assertRaises(errors.PowerError) as caught:
                call(passed)
            passed.append(5)
            passed[1].append(6)
            passed[2][1].append(7)
            self.assertEqual(caught.exception.value, [1, [2, 3], ("x", [4])])


if __name__ == "__main__":
    unittest.main()
