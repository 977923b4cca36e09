"""What README.md shows is what the program does."""

import doctest
import unittest
from pathlib import Path

README = Path(__file__).parent.parent / "README.md"


class ReadmeTest(unittest.TestCase):
    def test_examples(self):
        # A fence right behind an answer would be read as a part of it.
        text = README.read_text(encoding="utf-8").replace("```", "")
        examples = doctest.DocTestParser().get_doctest(text, {}, "README.md", str(README), 0)
        shown = []
        told = doctest.DocTestRunner(verbose=False).run(examples, out=shown.append)
        self.assertEqual(told.failed, 0, "".join(shown))
        self.assertGreater(told.attempted, 20)


if __name__ == "__main__":
    unittest.main()
