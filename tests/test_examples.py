"""The examples of the interface, a file of them for each stage: names stand for what they were in the last ones."""

import doctest
import pathlib
import unittest

FOLDER = pathlib.Path(__file__).parent / "examples"
STAGES = {"stage_1a": 9, "stage_1b": 7, "stage_2a": 9, "stage_2b": 10, "stage_3a": 13, "stage_3b": 14, "stage_4a": 6,
          "stage_4b": 11, "stage_5a": 9, "stage_5b": 10, "stage_6a": 10, "stage_6b": 7,
          "stage_7a": 10, "stage_7b": 11, "stage_8a": 8, "stage_8b": 4, "stage_9a": 15, "stage_9b": 6}


class Examples(unittest.TestCase):
    def examples(self, stage, names, many):
        """Run the examples of the stage; what the names stand for behind them."""
        text = (FOLDER / (stage + ".txt")).read_text(encoding="ascii")
        test = doctest.DocTestParser().get_doctest(text, names, stage, None, 0)
        runner = doctest.DocTestRunner()
        runner.run(test, clear_globs=False)
        self.assertEqual(runner.failures, 0)
        self.assertEqual(runner.tries, many)
        return test.globs

    def test_each_stage_by_itself(self):
        for stage, many in STAGES.items():
            with self.subTest(stage=stage):
                self.examples(stage, {}, many)

    def test_all_in_their_sequence(self):
        names = {}
        for stage, many in STAGES.items():
            names = self.examples(stage, names, many)

    def test_all_files(self):
        self.assertEqual(sorted(path.stem for path in FOLDER.glob("*.txt")), sorted(STAGES))


if __name__ == "__main__":
    unittest.main()
