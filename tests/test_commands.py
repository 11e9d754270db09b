"""[9b1], [9b4]: names, and which strings are commands and deeds by their words alone."""

import itertools
import re
import unittest

from sureparts.commands import is_command, is_deed, is_name
from sureparts.webs import Web
from tests.helpers import STRANGE, Case

# Both tables of commands: the kinds of the parts behind the first word.
DEEDS = ["web name COUNT ARROWS", "row name name LIST", "weight name name NUMBERS", "filling name name LIST COUNT",
         "arrow name COUNT COUNT", "strike name COUNT", "size name COUNT COUNT", "load name COUNT NUMBER",
         "entry name COUNT LIST COUNT", "both name name name", "turn name name", "copy name name", "drop name",
         "claim name -sure name name", "claim name -barred name name", "claim name -unsplit name",
         "claim name -split name", "claim name -steady name name", "claim name -tilted name name",
         "claim name -within name name COUNT", "claim name -beyond name name COUNT", "forget name"]
OTHERS = ["undo", "redo", "state name", "states", "claimed name", "names", "of name", "show name", "same name name",
          "form name name", "least name name", "maps name name", "lack name name", "sure name", "falls name",
          "steps name name"]

RIGHT = {
    "name": ["a", "z9", "abcdefgh", "a1234567", "row", "claim", "undo"],
    "COUNT": ["0", "1", "10", "999999", "100000"],
    "NUMBER": ["0", "1", "-1", "999999", "-999999", "-10"],
    "LIST": ["0", "7", "1,2", "999999,0", ",".join(["12"] * 13)],
    "NUMBERS": ["0", "-7", "1,-2", "-999999,0", ",".join(["-12"] * 13)],
    "ARROWS": ["-", "0>1", "0>1,0>1", "999999>0", "0>0", ",".join(["12>3"] * 12)],
}
COUNT, NUMBER = "(0|[1-9][0-9]{0,5})", "(0|-?[1-9][0-9]{0,5})"
FORMS = {
    "name": "[a-z][a-z0-9]{0,7}", "COUNT": COUNT, "NUMBER": NUMBER, "LIST": COUNT + "(," + COUNT + "){0,12}",
    "NUMBERS": NUMBER + "(," + NUMBER + "){0,12}",
    "ARROWS": "-|" + COUNT + ">" + COUNT + "(," + COUNT + ">" + COUNT + "){0,11}",
}
WRONG = ["", "-", "+1", "--1", "-0", "1.0", "0x1", "1e1", "_", "1_0", "x,", ",x", ",", ",,", ">", "A", "aB", "a b",
         "a_b", "a-b", "abcdefghi", "a12345678", "00", "01", "007", "0000000", "1000000", "-1000000", "-01",
         "1,", ",1", "1,,2", "1;2",
         "1, 2", "01,2", "1,02", "1000000,0", "-1000000,0", "0,-0", ",".join(["1"] * 14), ",".join(["-1"] * 14),
         "0>1,", ",0>1", "0>1,,0>1", "0>", ">1", "0>1>2", "0>-1", "-1>0", "00>1", "0>01", "1000000>0", "0>1000000",
         "0>1,-", "-,0>1", "0<1", "0 > 1", "(0,1)", "[0]", "0>1;0>1", ",".join(["0>1"] * 13), "\n", "1\n", "a\n", "$"]


def kinds(line):
    return line.split()[1:]


def told(line, parts):
    return " ".join([line.split()[0]] + parts)


def plain(line):
    """The first right parts of the command, its own words as they are."""
    return [kind[1:] if kind.startswith("-") else RIGHT[kind][0] for kind in kinds(line)]


class Names(Case):
    def test_names(self):
        for name in RIGHT["name"] + list("abcxyz") + ["a0", "a9z"]:
            self.assertIs(is_name(name), True)
            self.assertIs(is_name(value=name), True)
        wrong = ["", "A", "aB", "1", "1a", "9", "_a", "a_", "a b", " a", "a ", "a-", "a.b", "abcdefghi", "a12345678",
                 "a\n", "-",
                 "`", "{", "a{", "a:", "a/", "a`", "a@", "a["]
        for value in wrong + STRANGE + [0, 1, [], (), ["a"], ("a",), b"a", Web(1, [])]:
            self.assertIs(is_name(value), False)


class Commands(Case):
    def test_each_row_with_each_right_part(self):
        for line in DEEDS + OTHERS:
            first = told(line, plain(line))
            self.assertIs(is_command(first), True)
            self.assertIs(is_command(value=first), True)
            self.assertIs(is_deed(first), line in DEEDS)
            self.assertIs(is_deed(value=first), line in DEEDS)
            for at, kind in enumerate(kinds(line)):
                for part in RIGHT.get(kind, []):
                    parts = plain(line)
                    parts[at] = part
                    self.assertIs(is_command(told(line, parts)), True)
                    self.assertIs(is_deed(told(line, parts)), line in DEEDS)

    def test_each_row_with_any_part(self):
        found = set()
        for line in DEEDS + OTHERS:
            for at, kind in enumerate(kinds(line)):
                for part in sorted(set(itertools.chain(WRONG, *RIGHT.values()))):
                    parts = plain(line)
                    parts[at] = part
                    wanted = part == kind[1:] if kind.startswith("-") else bool(re.fullmatch(FORMS[kind], part))
                    found.add((kind, wanted))
                    self.assertIs(is_command(told(line, parts)), wanted, told(line, parts))
                    self.assertIs(is_deed(told(line, parts)), wanted and line in DEEDS)
        self.assertEqual(len(found), 20)

    def no_command(self, value):
        self.assertIs(is_command(value), False, value)
        self.assertIs(is_deed(value), False, value)

    def test_too_few_and_too_many_and_blanks(self):
        for line in DEEDS + OTHERS:
            words = told(line, plain(line)).split()
            text = " ".join(words)
            for at in range(len(words)):
                fewer = " ".join(words[:at] + words[at + 1:])
                if fewer not in ("sure a", "row a w 0"):
                    self.no_command(fewer)
                self.no_command(" ".join(words[:at + 1]) + "  " + " ".join(words[at + 1:]))
            for more in ("a", "0", "-", "0,1"):
                self.no_command(text + " " + more)
            for value in (" " + text, text + " ", text + "\n", "\n" + text, text.upper(), text + ";", text + "\t"):
                self.no_command(value)

    def test_no_commands(self):
        for value in ["", " ", "-", "web", "claim", "claim a", "claim a sure", "claim a lack b c", "do", "a",
                      "undo undo", "Undo", "claim a within b c", "claim a sure b c 0", "claim a unsplit b c",
                      "claim sure a b", "state", "kept a"]:
            self.no_command(value)
        for value in STRANGE + [0, 1, [], (), ["undo"], ("undo",), b"undo", Web(1, [])]:
            self.no_command(value)

    def test_names_whatever_is_kept(self):
        self.assertIs(is_command("same a a"), True)
        self.assertIs(is_command("copy a a"), True)
        self.assertIs(is_command("web web 999999 5>5"), True)
        self.assertIs(is_command("claim a within a a 999999"), True)


if __name__ == "__main__":
    unittest.main()
