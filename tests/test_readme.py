"""What README.md shows is what the program does."""

import doctest
import unittest
from pathlib import Path

README = Path(__file__).resolve().parent.parent / "README.md"


class ReadmeTest(unittest.TestCase):
    def test_examples(self):
        # The ends of the examples are told by marks that doctest does not know.
        text = README.read_text().replace("```\n", "\n")
        test = doctest.DocTestParser().get_doctest(text, {}, "README.md", str(README), 0)
        runner = doctest.DocTestRunner(optionflags=doctest.ELLIPSIS)
        runner.run(test)
        self.assertGreater(runner.tries, 40)
        self.assertEqual(runner.failures, 0)


if __name__ == "__main__":
    unittest.main()
