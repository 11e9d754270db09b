"""The examples of the interface, a file of them for each stage: names stand for what they were in the last ones."""

import doctest
import pathlib
import unittest

FOLDER = pathlib.Path(__file__).parent / "examples"
STAGES = {"stage_1a": 9, "stage_1b": 7, "stage_2a": 9, "stage_2b": 10, "stage_3a": 13, "stage_3b": 14, "stage_4a": 6,
          "stage_4b": 11, "stage_5a": 9, "stage_5b": 10, "stage_6a": 10, "stage_6b": 7,
          "stage_7a": 10, "stage_7b": 11, "stage_8a": 8, "stage_8b": 4}


class Examples(unittest.TestCase):
    def test_examples(self):
        for stage, many in STAGES.items():
            with self.subTest(stage=stage):
                text = (FOLDER / (stage + ".txt")).read_text(encoding="ascii")
                test = doctest.DocTestParser().get_doctest(text, {}, stage, None, 0)
                runner = doctest.DocTestRunner()
                runner.run(test)
                self.assertEqual(runner.failures, 0)
                self.assertEqual(runner.tries, many)


if __name__ == "__main__":
    unittest.main()
