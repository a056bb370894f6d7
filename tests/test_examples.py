"""The examples of the document, as they stand there, and those of README.md."""

import doctest
import pathlib
import unittest

HERE = pathlib.Path(__file__).parent
SECTIONS = [
    "bench", "circuits", "cycles", "desk", "errors", "joinings", "loads", "looks", "quickness", "rests", "scripts",
    "sizes", "sums",
]
EXAMPLES = sorted((HERE / "examples").glob("*.txt"))


class Examples(unittest.TestCase):
    def test_all_examples(self):
        self.assertEqual([path.stem for path in EXAMPLES], SECTIONS)
        for path in EXAMPLES + [HERE.parent / "README.md"]:
            with self.subTest(section=path.stem):
                failed, tried = doctest.testfile(str(path), module_relative=False)
                self.assertEqual(failed, 0)
                self.assertGreater(tried, 1)


if __name__ == "__main__":
    unittest.main()
