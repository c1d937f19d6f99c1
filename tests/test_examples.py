"""The examples of the document, which are promised as they stand."""

import doctest
import pathlib
import unittest

EXAMPLES = pathlib.Path(__file__).resolve().parent / "examples.txt"

MODULES = ["fields", "points", "terms", "theories", "programs", "worlds", "tables", "comparing", "deriving", "solving", "telling", "shapes", "desk"]


class Examples(unittest.TestCase):
    def test_they_return_what_they_show(self):
        sections = EXAMPLES.read_text().split("selfpower/")[1:]
        self.assertEqual([section.partition(".")[0] for section in sections], MODULES)
        for section in sections:
            test = doctest.DocTestParser().get_doctest(section, {}, section.partition("\n")[0], None, None)
            result = doctest.DocTestRunner().run(test)
            self.assertEqual([result.failed, result.attempted > 1], [0, True])


if __name__ == "__main__":
    unittest.main()
