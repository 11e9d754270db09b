"""[4b1] to [4b4]: lack papers and sure papers; of [4] LEAST AND GREATEST, SURE OR BARRED."""

import random
import unittest

from sureparts.errors import InvalidRow, InvalidWeb, NotBelow, TooMany
from sureparts.fillings import Filling, drawn_filling, nought_filling
from sureparts.lacks import is_lack_paper, is_sure_paper, lack_paper, sure_paper
from sureparts.maps import lack
from sureparts.rows import form
from sureparts.sure import is_sure, least_lack
from sureparts.tables import Table, nought, unit
from sureparts.webs import Web
from tests.helpers import (NO_WEBS, Case, added, below, drawn, drawn_row, no_rows, otherwise, rows_at, taken_off)

PAIR, NO = Web(2, [(0, 1), (0, 1)]), Table(1, 1, [[0]])
NEAR, FAR = Filling(PAIR, [1, 1], [unit(1), NO]), Filling(PAIR, [1, 1], [NO, unit(1)])
BARE, LONE = nought_filling(PAIR, [0, 0]), nought_filling(PAIR, [1, 0])
ROWS, SIZE = {"what": "rows", "limit": 400}, {"what": "size", "limit": 200}


def fills(filling, web, row):
    return isinstance(filling, Filling) and filling.web() == web and filling.row() == list(row)


def right_lack(web, row, other, paper):
    """Whether a tuple of the right kinds is a lack paper, by the words of [4b1]."""
    word, one, late, part, near, far = paper
    return (word == "lack" and fills(one, web, row) and fills(late, web, other) and list(part) in below(row)
            and fills(near, web, part) and fills(far, web, taken_off(row, part)) and lack(near, far) == 0
            and lack(one, late) == -form(web, part, other))


class LackPapers(Case):
    def test_told_ones_are_right(self):
        for web, source, row in rows_at(1, 60):
            other = drawn_row(source, web)
            paper = lack_paper(web, row, other)
            self.assertIs(type(paper), tuple)
            self.assertEqual(len(paper), 6)
            self.assertIs(type(paper[3]), list)
            self.assertTrue(right_lack(web, row, other, paper))
            self.assertEqual(lack(paper[1], paper[2]), least_lack(web, row, other))
            self.assertIs(is_lack_paper(web, row, other, paper), True)
            named = lack_paper(other=tuple(other), row=tuple(row), web=web)
            self.assertIs(is_lack_paper(value=named, other=tuple(other), row=tuple(row), web=web), True)
            turned = paper[:3] + (tuple(paper[3]),) + paper[4:]
            self.assertIs(is_lack_paper(web, row, other, turned), True)

    def test_noughts_and_without_arrows(self):
        web = Web(3, [])
        for row, other in (([0, 0, 0], [1, 2, 0]), ([2, 0, 1], [0, 0, 0]), ([2, 1, 1], [1, 1, 1])):
            paper = lack_paper(web, row, other)
            self.assertIs(is_lack_paper(web, row, other, paper), True)
            self.assertEqual(lack(paper[1], paper[2]), 0)
        self.assertIs(is_lack_paper(PAIR, [0, 0], [1, 1], lack_paper(PAIR, [0, 0], [1, 1])), True)
        self.assertIs(is_lack_paper(PAIR, [0, 0], [1, 1], ("lack", BARE, NEAR, (0, 0), BARE, BARE)), True)

    def test_put_otherwise(self):
        for web, source, row in rows_at(2, 25):
            other = drawn_row(source, web)
            paper = lack_paper(web, row, other)
            for value in otherwise(paper):
                self.assertIs(is_lack_paper(web, row, other, value), False)
            words = ["sure", "bar", "Lack", "lack "]
            for word in words:
                self.assertIs(is_lack_paper(web, row, other, (word,) + paper[1:]), False)

    def test_exactly_the_right_ones(self):
        source = random.Random(3)
        found = []
        for web, _, row in rows_at(4, 60, sizes=1):
            other = drawn_row(source, web, 1)
            for part in below(row):
                for _ in range(3):
                    rows = [row, other, part, taken_off(row, part)]
                    if source.random() < 0.2:
                        rows[source.randrange(4)] = drawn_row(source, web, 1)
                    one, late, near, far = [drawn(source, web, inner) for inner in rows]
                    paper = ("lack", one, late, part, near, far)
                    right = right_lack(web, row, other, paper)
                    found.append(right)
                    self.assertIs(is_lack_paper(web, row, other, paper), right)
        self.assertGreater(found.count(True), 30)
        self.assertGreater(found.count(False), 30)

    def test_for_example(self):
        good = ("lack", NEAR, FAR, [0, 0], BARE, FAR)
        self.assertIs(is_lack_paper(PAIR, [1, 1], [1, 1], good), True)
        self.assertIs(is_lack_paper(PAIR, [1, 1], [1, 1], good[:4] + (FAR, BARE)), False)
        self.assertIs(is_lack_paper(PAIR, [1, 1], [1, 1], good[:3] + ([1, 1], FAR, BARE)), True)
        self.assertIs(is_lack_paper(PAIR, [1, 1], [1, 1], good[:3] + ([2, 0],) + good[4:]), False)
        self.assertIs(is_lack_paper(PAIR, [1, 1], [1, 1], good[:3] + ([True, 1], FAR, BARE)), False)
        self.assertIs(is_lack_paper(PAIR, [1, 1], [1, 1], good[:3] + ([False, False],) + good[4:]), False)
        self.assertIs(is_lack_paper(PAIR, [1, 1], [1, 1], ("lack", NEAR, NEAR, [0, 0], BARE, FAR)), False)
        # That it lacks as much as some row of sizes tells shows nothing, unless the row is a sure part.
        thin = nought_filling(PAIR, [1, 1])
        self.assertEqual(lack(thin, NEAR), 1)
        self.assertIs(is_lack_paper(PAIR, [1, 1], [1, 1], ("lack", thin, NEAR, [1, 0], LONE,
                                                           nought_filling(PAIR, [0, 1]))), False)
        other = Web(2, [(0, 1), (0, 1), (0, 1)])
        self.assertIs(is_lack_paper(other, [1, 1], [1, 1], good), False)

    def test_400_rows_200_rows_and_more(self):
        five = Web(5, [(0, 1), (2, 3)])
        self.told(TooMany, ROWS, lack_paper, five, [4, 2, 2, 2, 2], [0] * 5)
        self.assertIs(is_lack_paper(five, [4, 2, 2, 2, 2], [0] * 5, None), False)
        small = lack_paper(five, [0] * 5, [4, 2, 2, 2, 2])
        self.assertIs(is_lack_paper(five, [0] * 5, [4, 2, 2, 2, 2], small), True)
        four = Web(4, [(0, 1)] * 8 + [(2, 3)])
        paper = lack_paper(four, [5, 0, 1, 0], [0, 5, 0, 0])
        self.assertEqual(lack(paper[1], paper[2]), 200)
        self.assertIs(is_lack_paper(four, [5, 0, 1, 0], [0, 5, 0, 0], paper), True)
        self.told(TooMany, SIZE, lack_paper, four, [5, 0, 1, 0], [0, 5, 0, 1])
        for value in (paper, None, 5, ("lack",)):
            self.told(TooMany, SIZE, is_lack_paper, four, [5, 0, 1, 0], [0, 5, 0, 1], value)
        much = Web(4, [(0, 1)] * 12)
        self.told(TooMany, ROWS, lack_paper, much, [6, 6, 6, 6], [6, 6, 6, 6])
        self.told(TooMany, SIZE, is_lack_paper, much, [6, 6, 6, 6], [6, 6, 6, 6], None)
        self.told(TooMany, SIZE, lack_paper, much, [6, 6, 0, 0], [6, 6, 6, 6])

    def test_errors(self):
        for value in NO_WEBS:
            self.told(InvalidWeb, {"value": value}, lack_paper, value, None, None)
            self.told(InvalidWeb, {"value": value}, is_lack_paper, value, None, None, None)
            self.told(InvalidWeb, {"value": value}, lack_paper, other=None, row=None, web=value)
        for value in no_rows(PAIR):
            self.told(InvalidRow, {"value": value}, lack_paper, PAIR, value, "later")
            self.told(InvalidRow, {"value": value}, lack_paper, PAIR, [1, 1], value)
            self.told(InvalidRow, {"value": value}, is_lack_paper, PAIR, value, "later", None)
            self.told(InvalidRow, {"value": value}, is_lack_paper, PAIR, [1, 1], value, None)

    def test_new_and_arguments_stay(self):
        row, other = [2, 1], [1, 2]
        paper = lack_paper(PAIR, row, other)
        is_lack_paper(PAIR, row, other, paper)
        self.same([row, other], [[2, 1], [1, 2]])
        paper[3].append(7)
        self.assertEqual(len(lack_paper(PAIR, row, other)[3]), 2)
        bar = sure_paper(PAIR, [1, 0], [2, 2])
        bar[1].append(7)
        self.assertEqual(len(sure_paper(PAIR, [1, 0], [2, 2])[1]), 2)


class SurePapers(Case):
    def test_just_one_word(self):
        words = []
        for web, source, row in rows_at(5, 120):
            whole = added(row, drawn_row(source, web))
            paper = sure_paper(web, row, whole)
            words.append(paper[0])
            self.assertIs(type(paper), tuple)
            self.assertEqual(paper[0], "sure" if is_sure(web, row, whole) else "bar")
            self.assertTrue(self.right(web, row, whole, paper))
            self.assertIs(is_sure_paper(web, row, whole, paper), True)
            named = sure_paper(whole=tuple(whole), row=tuple(row), web=web)
            self.assertIs(is_sure_paper(value=named, whole=tuple(whole), row=tuple(row), web=web), True)
            if paper[0] == "bar":
                self.assertIs(type(paper[1]), list)
                turned = ("bar", tuple(paper[1])) + paper[2:]
                self.assertIs(is_sure_paper(web, row, whole, turned), True)
        self.assertGreater(words.count("sure"), 10)
        self.assertGreater(words.count("bar"), 10)

    def right(self, web, row, whole, paper):
        rest = taken_off(whole, row)
        if paper[0] == "sure":
            return (len(paper) == 3 and fills(paper[1], web, row) and fills(paper[2], web, rest)
                    and lack(paper[1], paper[2]) == 0)
        word, part, near, far = paper
        return (word == "bar" and list(part) in below(row) and fills(near, web, part)
                and fills(far, web, taken_off(row, part)) and lack(near, far) == 0 and form(web, part, rest) < 0)

    def test_exactly_the_right_ones(self):
        source = random.Random(6)
        found = []
        for web, _, row in rows_at(7, 50, sizes=1):
            whole = added(row, drawn_row(source, web, 1))
            for part in below(row):
                rows = [row, taken_off(whole, row), part, taken_off(row, part)]
                if source.random() < 0.2:
                    rows[source.randrange(4)] = drawn_row(source, web, 1)
                one, late, near, far = [drawn(source, web, inner) for inner in rows]
                for paper in (("sure", one, late), ("bar", part, near, far)):
                    right = self.right(web, row, whole, paper)
                    found.append((paper[0], right))
                    self.assertIs(is_sure_paper(web, row, whole, paper), right)
                    if right:
                        self.assertEqual(paper[0], "sure" if is_sure(web, row, whole) else "bar")
        for kind in (("sure", True), ("sure", False), ("bar", True), ("bar", False)):
            self.assertGreater(found.count(kind), 10)

    def test_put_otherwise(self):
        for web, source, row in rows_at(8, 30):
            whole = added(row, drawn_row(source, web))
            paper = sure_paper(web, row, whole)
            for value in otherwise(paper):
                self.assertIs(is_sure_paper(web, row, whole, value), False)
            for word in ("lack", "brick", "barred", "Sure", "sure " if paper[0] == "sure" else "sure"):
                self.assertIs(is_sure_paper(web, row, whole, (word,) + paper[1:]), False)

    def test_noughts_and_itself(self):
        for web, _, row in rows_at(9, 20):
            zeros = [0] * web.places
            for part in (zeros, row):
                paper = sure_paper(web, part, row)
                self.assertEqual(paper[0], "sure")
                self.assertIs(is_sure_paper(web, part, row, paper), True)
            empty = nought_filling(web, zeros)
            filling = drawn_filling(web, row, 3)
            self.assertIs(is_sure_paper(web, row, row, ("sure", filling, empty)), True)
            self.assertIs(is_sure_paper(web, zeros, row, ("sure", empty, filling)), True)

    def test_for_example(self):
        self.assertIs(is_sure_paper(PAIR, [1, 1], [2, 2], ("sure", NEAR, FAR)), True)
        self.assertIs(is_sure_paper(PAIR, [1, 1], [2, 2], ("sure", NEAR, NEAR)), False)
        self.assertIs(is_sure_paper(PAIR, [1, 0], [2, 2], ("bar", (1, 0), LONE, BARE)), True)
        self.assertIs(is_sure_paper(PAIR, [1, 0], [2, 2], ("bar", [1, 0], BARE, LONE)), False)
        self.assertIs(is_sure_paper(PAIR, [1, 0], [2, 2], ("bar", [0, 0], BARE, LONE)), False)
        self.assertIs(is_sure_paper(PAIR, [1, 0], [2, 2], ("bar", [True, 0], LONE, BARE)), False)
        self.assertIs(is_sure_paper(PAIR, [1, 0], [2, 2], ("bar", [2, 0], LONE, BARE)), False)

    def test_without_too_many_by_size(self):
        # The row and what is left of it: by the form they lack something, and their table of both would be tall.
        web = Web(2, [(0, 1)] * 12)
        paper = sure_paper(web, [6, 0], [6, 6])
        self.assertEqual(paper[0], "bar")
        self.assertIs(is_sure_paper(web, [6, 0], [6, 6], paper), True)
        sure = ("sure", nought_filling(web, [6, 0]), nought_filling(web, [0, 6]))
        self.assertIs(is_sure_paper(web, [6, 0], [6, 6], sure), False)
        for value in (("bar", [6, 0], nought_filling(web, [6, 0]), nought_filling(web, [0, 6])), None):
            self.assertIs(is_sure_paper(web, [6, 6], [6, 6], value), False)
        self.assertEqual(sure_paper(web, [0, 6], [6, 6])[0], "sure")
        self.assertIs(is_sure_paper(web, [0, 6], [6, 6], sure_paper(web, [0, 6], [6, 6])), True)

    def test_400_rows_and_more(self):
        five = Web(5, [(0, 1), (2, 3)])
        self.told(TooMany, ROWS, sure_paper, five, [4, 2, 2, 2, 2], [4, 2, 2, 2, 2])
        self.told(NotBelow, {}, sure_paper, five, [4, 2, 2, 2, 2], [3, 2, 2, 2, 2])
        self.assertEqual(sure_paper(five, [0, 0, 0, 0, 1], [4, 2, 2, 2, 2])[0], "sure")
        whole = drawn_filling(five, [4, 2, 2, 2, 2], 1)
        good = ("sure", whole, nought_filling(five, [0] * 5))
        self.assertIs(is_sure_paper(five, [4, 2, 2, 2, 2], [4, 2, 2, 2, 2], good), True)

    def test_errors(self):
        for action, more in ((sure_paper, ()), (is_sure_paper, (None,))):
            for value in NO_WEBS:
                self.told(InvalidWeb, {"value": value}, action, value, None, None, *more)
            for value in no_rows(PAIR):
                self.told(InvalidRow, {"value": value}, action, PAIR, value, "later", *more)
                self.told(InvalidRow, {"value": value}, action, PAIR, [1, 1], value, *more)
            for row in ([3, 0], [0, 3], [3, 3], [6, 1]):
                self.told(NotBelow, {}, action, PAIR, row, [2, 2], *more)
            self.told(InvalidRow, {"value": [2]}, action, PAIR, [3, 0], [2], *more)
        self.told(NotBelow, {}, sure_paper, whole=(2, 2), row=(3, 0), web=PAIR)
        self.told(NotBelow, {}, is_sure_paper, value=None, whole=[0, 0], row=[0, 1], web=PAIR)

    def test_size_0_tables(self):
        web = Web(2, [(0, 1)])
        high = Filling(web, [0, 2], [nought(2, 0)])
        self.assertIs(is_sure_paper(web, [0, 2], [3, 2], ("sure", high, Filling(web, [3, 0], [nought(0, 3)]))), True)
        self.assertIs(is_sure_paper(web, [0, 2], [3, 2], ("sure", high, Filling(web, [2, 0], [nought(0, 2)]))), False)


if __name__ == "__main__":
    unittest.main()
