"""The examples of the interface, a file of them for each stage: names stand for what they were in the last ones."""

import doctest
import pathlib
import unittest

FOLDER = pathlib.Path(__file__).parent / "examples"
STAGES = {"stage_1a": 9, "stage_1b": 7, "stage_2a": 9, "stage_2b": 10}


class Examples(unittest.TestCase):
    def test_examples(self):
        for stage, many in STAGES.items():
            with self.subTest(stage=stage):
                text = (FOLDER / (stage + ".txt")).read_text(encoding="ascii")
                test = doctest.DocTestParser().get_doctest(text, {}, stage, None, 0)
                runner = doctest.DocTestRunner()
                runner.run(test)
                self.assertEqual(runner.failures, 0)
                self.assertEqual(runner.tries, many)


if __name__ == "__main__":
    unittest.main()
