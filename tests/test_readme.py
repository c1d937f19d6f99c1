"""The examples of README.md."""

import doctest
import pathlib
import unittest

README = pathlib.Path(__file__).resolve().parent.parent / "README.md"


class Examples(unittest.TestCase):
    def test_they_return_what_they_show(self):
        result = doctest.testfile(str(README), module_relative=False, parser=Blocks())
        self.assertGreater(result.attempted, 5)
        self.assertEqual(result.failed, 0)


class Blocks(doctest.DocTestParser):
    """Examples end where the fence of their block stands."""

    def parse(self, string, name="<string>"):
        return super().parse(string.replace("```", ""), name)


if __name__ == "__main__":
    unittest.main()
