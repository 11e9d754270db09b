"""[5a1] to [5a5]: bricks, unsplit rows, split bars; of [4] UNSPLIT OR BARRED."""

import random
import unittest

from sureparts.errors import InvalidRow, InvalidWeb, IsNought, TooMany
from sureparts.falling import is_brick
from sureparts.fillings import Filling, both, drawn_filling, exchanged, nought_filling
from sureparts.maps import lack, maps_many
from sureparts.rows import form, simple_row
from sureparts.sure import is_sure, sure_parts
from sureparts.tables import Table, unit
from sureparts.unsplit import is_unsplit, is_unsplit_paper, unsplit_paper
from sureparts.webs import Web, turned_web
from tests.helpers import (NO_WEBS, STRANGE, WEBS, Case, below, drawn, drawn_row, no_rows, otherwise, rows_at,
                           taken_off, undone_table)

ONE, NO = Table(1, 1, [[1]]), Table(1, 1, [[0]])
PAIR, THREE = Web(2, [(0, 1), (0, 1)]), Web(2, [(0, 1)] * 3)
NEAR, FAR = Filling(PAIR, [1, 1], [ONE, NO]), Filling(PAIR, [1, 1], [NO, ONE])
ROWS, SIZE = {"what": "rows", "limit": 400}, {"what": "size", "limit": 200}


def fills(filling, web, row):
    return isinstance(filling, Filling) and filling.web() == web and filling.row() == list(row)


def right(web, row, paper):
    """Whether a tuple of the right kinds shows that the row is unsplit, or bars it, by the words of [5a]."""
    if paper[0] == "brick":
        return fills(paper[1], web, row) and any(row) and maps_many(paper[1], paper[1]) == 1
    word, part, near, far = paper
    return (word == "bar" and list(part) in below(row) and any(part) and list(part) != list(row)
            and fills(near, web, part) and fills(far, web, taken_off(row, part)) and lack(near, far) == 0
            and form(web, part, row) <= form(web, row, part))


class Unsplit(Case):
    def test_exactly_if_some_drawn_filling_is_a_brick(self):
        found = []
        for web, _, row in rows_at(1, 80):
            bricks = [seed for seed in range(3) if is_brick(drawn_filling(web, row, seed))]
            found.append(bool(bricks))
            self.assertIs(is_unsplit(web, row), bool(bricks))
            self.assertIs(is_unsplit(row=tuple(row), web=web), bool(bricks))
        self.assertIn(True, found)
        self.assertIn(False, found)

    def test_exactly_without_a_sure_part_that_bars(self):
        for web, _, row in rows_at(2, 60):
            bars = [part for part in sure_parts(web, row) if any(part) and part != row
                    and form(web, part, row) - form(web, row, part) <= 0]
            self.assertIs(is_unsplit(web, row), any(row) and not bars)

    def test_noughts_and_simple_rows(self):
        for web in WEBS:
            self.assertIs(is_unsplit(web, [0] * web.places), False)
            for place in range(web.places):
                self.assertIs(is_unsplit(web, simple_row(web, place)), True)
                self.assertIs(is_unsplit(web, [2 * size for size in simple_row(web, place)]), False)

    def test_without_arrows_simple_rows_alone(self):
        for row in below([2, 2, 1]):
            self.assertIs(is_unsplit(Web(3, []), row), sum(row) == 1)

    def test_multiples(self):
        forms = set()
        for web, _, row in list(rows_at(3, 80)) + [(PAIR, None, [1, 1]), (THREE, None, [1, 1])]:
            if not is_unsplit(web, row):
                continue
            told = form(web, row, row)
            self.assertLessEqual(told, 1)
            for many in (2, 3):
                more = [many * size for size in row]
                if max(more) <= 6:
                    forms.add(told)
                    self.assertIs(is_unsplit(web, more), told < 0)
        self.assertTrue({0, 1} <= forms and min(forms) < 0)

    def test_for_example(self):
        for row, wanted in (([1, 1], True), ([2, 2], False), ([3, 3], False), ([2, 3], True), ([3, 2], True),
                            ([6, 5], True), ([2, 4], False), ([1, 3], False)):
            self.assertIs(is_unsplit(PAIR, row), wanted)
        self.assertIs(is_unsplit(THREE, [2, 2]), True)
        self.assertIs(is_unsplit(THREE, [1, 3]), True)
        self.assertIs(is_unsplit(THREE, [1, 4]), False)
        self.assertEqual(form(THREE, [2, 2], [2, 2]), -4)

    def test_turned_about(self):
        for web, _, row in rows_at(4, 40):
            self.assertIs(is_unsplit(turned_web(web), row), is_unsplit(web, row))

    def test_errors_and_400_rows(self):
        five = Web(5, [(0, 1)])
        for action in (is_unsplit, unsplit_paper):
            for value in NO_WEBS:
                self.told(InvalidWeb, {"value": value}, action, value, None)
                self.told(InvalidWeb, {"value": value}, action, row=None, web=value)
            for value in no_rows(PAIR):
                self.told(InvalidRow, {"value": value}, action, PAIR, value)
                self.told(InvalidRow, {"value": value}, action, row=value, web=PAIR)
            self.told(TooMany, ROWS, action, five, [4, 2, 2, 2, 2])
        four = Web(4, [(0, 1), (1, 2), (2, 3)])
        self.assertIs(is_unsplit(four, [4, 4, 3, 3]), False)
        self.assertIs(is_unsplit_paper(five, [4, 2, 2, 2, 2], None), False)

    def test_arguments_stay_and_new(self):
        row = [2, 2]
        paper = unsplit_paper(PAIR, row)
        is_unsplit(PAIR, row)
        is_unsplit_paper(PAIR, row, paper)
        self.same(row, [2, 2])
        paper[1].append(7)
        self.assertEqual(len(unsplit_paper(PAIR, row)[1]), 2)


class Bricks(Case):
    def test_by_own_maps(self):
        for web, source, row in rows_at(5, 60):
            filling = drawn(source, web, row)
            self.assertIs(is_brick(filling), maps_many(filling, filling) == 1)
            if any(row):
                self.assertGreaterEqual(maps_many(filling, filling), 1)
                across = [undone_table(source, size) for size in row]
                self.assertIs(is_brick(exchanged(filling, across)), is_brick(filling))
                self.assertIs(is_brick(both(filling, filling)), False)
                self.assertIs(is_brick(both(filling, nought_filling(web, [0] * web.places))), is_brick(filling))

    def test_no_brick_though_not_side_by_side(self):
        shift = Filling(PAIR, [2, 2], [unit(2), Table(2, 2, [[0, 1], [0, 0]])])
        self.assertEqual(maps_many(shift, shift), 2)
        self.assertIs(is_brick(shift), False)


class Papers(Case):
    def test_just_one_kind(self):
        words = []
        for web, _, row in rows_at(6, 80):
            if not any(row):
                continue
            paper = unsplit_paper(web, row)
            words.append(paper[0])
            self.assertIs(type(paper), tuple)
            self.assertEqual(paper[0], "brick" if is_unsplit(web, row) else "bar")
            self.assertTrue(right(web, row, paper))
            self.assertIs(is_unsplit_paper(web, row, paper), True)
            named = unsplit_paper(row=tuple(row), web=web)
            self.assertIs(is_unsplit_paper(value=named, row=tuple(row), web=web), True)
            if paper[0] == "bar":
                self.assertIs(type(paper[1]), list)
                self.assertIs(is_sure(web, paper[1], row), True)
                self.assertIs(is_unsplit_paper(web, row, ("bar", tuple(paper[1])) + paper[2:]), True)
        self.assertGreater(words.count("brick"), 15)
        self.assertGreater(words.count("bar"), 15)

    def test_exactly_the_right_ones(self):
        source = random.Random(7)
        found = []
        for web, _, row in rows_at(8, 60):
            for part in below(row)[:12]:
                rows = [row, part, taken_off(row, part)]
                if source.random() < 0.2:
                    rows[source.randrange(3)] = drawn_row(source, web, 1)
                one, near, far = [drawn(source, web, inner) for inner in rows]
                for paper in (("brick", one), ("bar", part, near, far)):
                    wanted = bool(right(web, row, paper))
                    found.append((paper[0], wanted))
                    self.assertIs(is_unsplit_paper(web, row, paper), wanted)
                    if wanted:
                        self.assertIs(is_unsplit(web, row), paper[0] == "brick")
        for kind in (("brick", True), ("brick", False), ("bar", True), ("bar", False)):
            self.assertGreater(found.count(kind), 10)

    def test_put_otherwise(self):
        for web, _, row in rows_at(9, 30):
            if any(row):
                paper = unsplit_paper(web, row)
                for value in otherwise(paper):
                    self.assertIs(is_unsplit_paper(web, row, value), False)
                for word in ("sure", "split", "unsplit", "Bar", "brick" if paper[0] == "bar" else "bar"):
                    self.assertIs(is_unsplit_paper(web, row, (word,) + paper[1:]), False)

    def test_for_example(self):
        self.assertIs(is_unsplit_paper(PAIR, [1, 1], ("brick", Filling(PAIR, [1, 1], [NO, NO]))), False)
        self.assertIs(is_unsplit_paper(PAIR, [2, 2], ("brick", NEAR)), False)
        self.assertIs(is_unsplit_paper(THREE, [1, 1], ("brick", NEAR)), False)
        self.assertIs(is_unsplit_paper(PAIR, [2, 2], ("bar", (1, 1), FAR, NEAR)), True)
        self.assertIs(is_unsplit_paper(PAIR, [2, 2], ("bar", [True, True], FAR, NEAR)), False)
        none, all_of_it = nought_filling(PAIR, [0, 0]), drawn_filling(PAIR, [2, 2], 3)
        self.assertIs(is_unsplit_paper(PAIR, [2, 2], ("bar", [0, 0], none, all_of_it)), False)
        self.assertIs(is_unsplit_paper(PAIR, [2, 2], ("bar", [2, 2], all_of_it, none)), False)
        # A sure part of lesser form is no bar.
        low, high = nought_filling(PAIR, [0, 1]), nought_filling(PAIR, [1, 0])
        self.assertEqual(lack(low, high), 0)
        self.assertIs(is_unsplit_paper(PAIR, [1, 1], ("bar", [0, 1], low, high)), False)

    def test_noughts(self):
        for web in WEBS:
            zeros = [0] * web.places
            empty = nought_filling(web, zeros)
            self.told(IsNought, {}, unsplit_paper, web, zeros)
            for value in (("brick", empty), ("bar", zeros, empty, empty), None, ()):
                self.assertIs(is_unsplit_paper(web, zeros, value), False)

    def test_200_rows_and_more(self):
        eight = Web(2, [(0, 1)] * 8)
        paper = unsplit_paper(eight, [5, 5])
        self.assertEqual(paper[0], "brick")
        self.assertIs(is_unsplit_paper(eight, [5, 5], paper), True)
        web = Web(4, [(0, 1)] * 8 + [(2, 3)])
        for row in ([5, 5, 1, 1], [6, 5, 0, 0], [5, 6, 1, 0]):
            self.told(TooMany, SIZE, unsplit_paper, web, row)
            self.assertIs(type(is_unsplit(web, row)), bool)
            for value in (None, 5, ("brick", drawn_filling(web, row, 1)), paper, ()):
                self.told(TooMany, SIZE, is_unsplit_paper, web, row, value)
        self.told(TooMany, ROWS, unsplit_paper, web, [6, 6, 6, 6])
        self.told(TooMany, SIZE, is_unsplit_paper, web, [6, 6, 6, 6], None)
        # By wide alone no row has a table of both of more than 144 columns.
        self.assertEqual(unsplit_paper(Web(4, []), [6, 6, 0, 0])[0], "bar")

    def test_judge_errors(self):
        for value in NO_WEBS:
            self.told(InvalidWeb, {"value": value}, is_unsplit_paper, value, None, None)
        for value in no_rows(PAIR):
            self.told(InvalidRow, {"value": value}, is_unsplit_paper, PAIR, value, None)
            self.told(InvalidRow, {"value": value}, is_unsplit_paper, value=None, row=value, web=PAIR)
        for value in STRANGE:
            self.assertIs(is_unsplit_paper(PAIR, [1, 1], value), False)


if __name__ == "__main__":
    unittest.main()
