"""The examples of README.md, and those of the interface that stand there."""

import doctest
import pathlib
import unittest

README = pathlib.Path(__file__).parent.parent / "README.md"


class ReadmeTest(unittest.TestCase):
    def test_the_examples_have_the_answers_that_stand_there(self):
        # The sign of a code block ends an example.
        text = README.read_text(encoding="utf-8").replace("```", "")
        found = doctest.DocTestParser().get_doctest(text, {}, "README.md", str(README), 0)
        runner = doctest.DocTestRunner(verbose=False)
        runner.run(found, out=lambda told: None)
        self.assertEqual([runner.failures, runner.tries > 25], [0, True])


if __name__ == "__main__":
    unittest.main()
