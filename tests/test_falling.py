"""[5b1] to [5b5]: in which one way rows fall, rows that are apart, bricks, falls papers."""

import random
import unittest

from sureparts.errors import InvalidFilling, InvalidRow, InvalidWeb, TooMany
from sureparts.falling import are_apart, falls, falls_paper, is_brick, is_falls_paper
from sureparts.fillings import Filling, both, drawn_filling, nought_filling, simple_filling
from sureparts.maps import lack, maps_many
from sureparts.rows import form
from sureparts.sure import least_lack
from sureparts.tables import Table
from sureparts.unsplit import is_unsplit
from sureparts.webs import Web, turned_web
from tests.helpers import (JUNK, NO_WEBS, STRANGE, Case, added, below, drawn, drawn_row, no_rows, rows_at, taken_off)

YES, NO = Table(1, 1, [[1]]), Table(1, 1, [[0]])
PAIR, THREE = Web(2, [(0, 1), (0, 1)]), Web(2, [(0, 1)] * 3)
NEAR, FAR = Filling(PAIR, [1, 1], [YES, NO]), Filling(PAIR, [1, 1], [NO, YES])
ROWS = {"what": "rows", "limit": 400}
NO_FILLINGS = STRANGE + [0, [], (), [1, 1], PAIR, YES, [NEAR], (PAIR, [1, 1], [YES, NO])]


def summed(web, rows):
    total = [0] * web.places
    for row in rows:
        total = added(total, row)
    return total


def right_falls(web, row, parts):
    """Whether the row falls into the list of rows, by the words of [5b1]."""
    return (summed(web, parts) == list(row) and all(is_unsplit(web, part) for part in parts)
            and all(least_lack(web, part, other) == 0 for at, part in enumerate(parts)
                    for late, other in enumerate(parts) if at != late))


def right_paper(web, row, bricks):
    rows = [brick.row() for brick in bricks]
    return (all(brick.web() == web for brick in bricks) and rows == sorted(rows) and summed(web, rows) == list(row)
            and all(any(brick.row()) and maps_many(brick, brick) == 1 for brick in bricks)
            and all(lack(brick, other) == 0 for at, brick in enumerate(bricks)
                    for late, other in enumerate(bricks) if at != late))


def splittings(web, row, least=None):
    """All sorted lists of rows, none of them noughts, that sum to the row."""
    if not any(row):
        yield []
        return
    for part in below(row):
        if any(part) and (least is None or part >= least):
            for more in splittings(web, taken_off(row, part), part):
                yield [part] + more


class Falls(Case):
    def test_the_one_list(self):
        lengths = set()
        for web, _, row in rows_at(1, 60):
            told = falls(web, row)
            lengths.add(len(told))
            self.assertTrue(right_falls(web, row, told))
            self.assertEqual(told, sorted(told))
            self.assertIs(type(told), list)
            self.same(falls(row=tuple(row), web=web), told)
            self.assertIs(told == [row], is_unsplit(web, row))
        self.assertTrue({0, 1, 2, 3} <= lengths)

    def test_no_other_list(self):
        for web, _, row in rows_at(2, 25, sizes=1):
            self.same([list(map(list, parts)) for parts in splittings(web, row) if right_falls(web, row, parts)],
                      [falls(web, row)])
        for row in ([2, 2], [3, 2], [1, 3]):
            for web in (PAIR, THREE, Web(2, [(1, 0)])):
                self.same([parts for parts in splittings(web, row) if right_falls(web, row, parts)],
                          [falls(web, row)])

    def test_for_example(self):
        self.same(falls(PAIR, [3, 3]), [[1, 1]] * 3)
        self.same(falls(PAIR, [2, 2]), [[1, 1], [1, 1]])
        self.same(falls(THREE, [2, 2]), [[2, 2]])
        self.same(falls(PAIR, [6, 4]), [[3, 2], [3, 2]])
        self.same(falls(PAIR, [0, 3]), [[0, 1]] * 3)
        self.same(falls(Web(3, []), [1, 0, 2]), [[0, 0, 1], [0, 0, 1], [1, 0, 0]])
        self.same(falls(Web(2, [(0, 1)]), [3, 1]), [[1, 0], [1, 0], [1, 1]])

    def test_noughts_and_unsplit(self):
        for web, _, row in rows_at(3, 40):
            self.same(falls(web, [0] * web.places), [])
            for part in falls(web, row):
                self.same(falls(web, part), [part])

    def test_rows_that_stand_twice(self):
        found = set()
        for web, _, row in rows_at(4, 80):
            told = falls(web, row)
            for part in told:
                if told.count(part) > 1:
                    found.add(form(web, part, part))
        self.assertEqual(found | {0}, {0, 1})
        self.assertEqual(form(PAIR, [1, 1], [1, 1]), 0)

    def test_turned_about(self):
        for web, _, row in rows_at(5, 40):
            self.same(falls(turned_web(web), row), falls(web, row))

    def test_400_rows_and_more(self):
        five, small = Web(5, [(0, 1)]), [0, 0, 0, 0, 1]
        much = [4, 2, 2, 2, 2]
        self.told(TooMany, ROWS, falls, five, much)
        self.told(TooMany, ROWS, falls_paper, five, much)
        self.told(TooMany, ROWS, are_apart, five, much, small)
        self.told(TooMany, ROWS, are_apart, five, small, much)
        self.told(TooMany, ROWS, are_apart, five, [1, 0, 0, 0, 0], [0, 4, 6, 2, 6])
        self.told(InvalidRow, {"value": None}, are_apart, five, much, None)
        self.assertEqual(len(falls(Web(4, []), [4, 4, 3, 3])), 14)
        simple = [simple_filling(five, place) for place in (4, 4, 3, 3, 2, 2)]
        pairs = [drawn_filling(five, [1, 1, 0, 0, 0], 1)] * 2 + [simple_filling(five, 0)] * 2
        told = sorted(simple + pairs, key=lambda brick: brick.row())
        self.assertIs(is_falls_paper(five, much, told), True)
        self.assertIs(is_falls_paper(five, much, told[1:]), False)

    def test_errors(self):
        for value in NO_WEBS:
            for action in (falls, falls_paper):
                self.told(InvalidWeb, {"value": value}, action, value, None)
            self.told(InvalidWeb, {"value": value}, are_apart, value, None, None)
            self.told(InvalidWeb, {"value": value}, is_falls_paper, value, None, None)
        for value in no_rows(PAIR):
            for action in (falls, falls_paper):
                self.told(InvalidRow, {"value": value}, action, PAIR, value)
                self.told(InvalidRow, {"value": value}, action, row=value, web=PAIR)
            self.told(InvalidRow, {"value": value}, are_apart, PAIR, value, "later")
            self.told(InvalidRow, {"value": value}, are_apart, other=value, row=[1, 1], web=PAIR)
            self.told(InvalidRow, {"value": value}, is_falls_paper, PAIR, value, None)
        for value in NO_FILLINGS:
            self.told(InvalidFilling, {"value": value}, is_brick, value)
            self.told(InvalidFilling, {"value": value}, is_brick, filling=value)

    def test_arguments_stay_and_new(self):
        self.new_list(lambda: falls(PAIR, [2, 2]))
        row, other = [2, 2], [1, 1]
        told = falls_paper(PAIR, row)
        kept = list(told)
        are_apart(PAIR, row, other)
        is_falls_paper(PAIR, row, told)
        self.assertTrue(told == kept)
        self.same([row, other], [[2, 2], [1, 1]])
        told.pop()
        self.assertEqual(len(falls_paper(PAIR, row)), 2)


class Apart(Case):
    def test_by_least_lacks(self):
        found = []
        for web, source, row in rows_at(6, 60):
            other = drawn_row(source, web)
            apart = least_lack(web, row, other) == 0 and least_lack(web, other, row) == 0
            found.append(apart)
            self.assertIs(are_apart(web, row, other), apart)
            self.assertIs(are_apart(other=tuple(row), row=tuple(other), web=web), apart)
            self.assertIs(sorted(falls(web, row) + falls(web, other)) == falls(web, added(row, other)), apart)
            self.assertIs(all(are_apart(web, one, late) for one in falls(web, row) for late in falls(web, other)),
                          apart)
        self.assertIn(True, found)
        self.assertIn(False, found)

    def test_either_sequence(self):
        one = Web(2, [(0, 1)])
        self.assertEqual([least_lack(one, [1, 0], [0, 1]), least_lack(one, [0, 1], [1, 0])], [1, 0])
        self.assertIs(are_apart(one, [1, 0], [0, 1]), False)
        self.assertIs(are_apart(one, [0, 1], [1, 0]), False)
        self.assertIs(are_apart(one, [1, 1], [0, 1]), True)
        self.assertIs(are_apart(one, [0, 0], [5, 6]), True)

    def test_beyond_one_row(self):
        self.assertIs(are_apart(Web(2, [(0, 1)]), [6, 6], [6, 6]), True)
        self.assertIs(are_apart(PAIR, [6, 6], [6, 6]), True)
        self.assertIs(are_apart(THREE, [6, 6], [6, 6]), False)


class Bricks(Case):
    def test_without_too_many(self):
        web = Web(2, [(0, 1)] * 12)
        self.assertIs(is_brick(drawn_filling(web, [6, 6], 5)), True)
        self.assertIs(is_brick(nought_filling(web, [6, 6])), False)
        half = drawn_filling(web, [3, 3], 5)
        self.assertIs(is_brick(both(half, half)), False)
        self.same(falls(web, [6, 6]), [[6, 6]])
        paper = falls_paper(web, [6, 6])
        self.assertIs(is_falls_paper(web, [6, 6], paper), True)
        self.assertIs(is_falls_paper(web, [6, 6], [half, half]), False)

    def test_noughts_and_simple(self):
        self.assertIs(is_brick(nought_filling(PAIR, [0, 0])), False)
        self.assertIs(is_brick(simple_filling(PAIR, 1)), True)
        self.assertIs(is_brick(filling=nought_filling(PAIR, [0, 2])), False)
        self.assertIs(is_brick(NEAR), True)
        self.assertIs(is_brick(Filling(PAIR, [1, 1], [NO, NO])), False)


class Papers(Case):
    def test_told_ones_are_right(self):
        for web, _, row in rows_at(7, 60):
            paper = falls_paper(web, row)
            self.assertIs(type(paper), list)
            self.same([brick.row() for brick in paper], falls(web, row))
            self.assertTrue(right_paper(web, row, paper))
            self.assertIs(is_falls_paper(web, row, paper), True)
            self.assertIs(is_falls_paper(value=tuple(paper), row=tuple(row), web=web), True)
            self.assertIs(is_falls_paper(web, row, falls_paper(row=tuple(row), web=web)), True)

    def test_own_maps(self):
        for web, source, row in rows_at(8, 40):
            paper = falls_paper(web, row)
            rows = [brick.row() for brick in paper]
            least = len(rows) + sum(form(web, part, other) for at, part in enumerate(rows)
                                    for late, other in enumerate(rows) if at != late)
            side = nought_filling(web, [0] * web.places)
            for brick in paper:
                side = both(side, brick)
            self.assertEqual(maps_many(side, side), least)
            for filling in (drawn(source, web, row), drawn_filling(web, row, 9)):
                self.assertGreaterEqual(maps_many(filling, filling), least)

    def test_exactly_the_right_ones(self):
        source = random.Random(9)
        found = []
        for web, _, row in rows_at(10, 60):
            lists = [[row], falls(web, row), [list(part) for part in below(row)[1:3]], falls(web, row)[::-1]]
            for parts in lists:
                for _ in range(4):
                    bricks = [drawn(source, web, part) for part in parts]
                    wanted = right_paper(web, row, bricks)
                    found.append((len(parts) > 1, wanted))
                    self.assertIs(is_falls_paper(web, row, bricks), wanted)
        for kind in ((True, True), (True, False), (False, True), (False, False)):
            self.assertGreater(found.count(kind), 5)

    def test_put_otherwise(self):
        for web, source, row in rows_at(11, 40):
            paper = falls_paper(web, row)
            other = drawn_row(source, web, 1)
            wrong = [paper + [drawn(source, web, other)]] if any(other) else []
            wrong += [paper + [nought_filling(web, [0] * web.places)], (paper,), [paper], [None], {0: paper}, "ab"]
            for at in range(len(paper)):
                wrong += [paper[:at] + paper[at + 1:], paper + [paper[at]]]
                wrong += [paper[:at] + [junk] + paper[at + 1:] for junk in JUNK]
                wrong.append(paper[:at] + [[paper[at]]] + paper[at + 1:])
            for value in wrong + STRANGE + [0, 1, web]:
                self.assertIs(is_falls_paper(web, row, value), False)
            for value in ([], ()):
                self.assertIs(is_falls_paper(web, row, value), not any(row))

    def test_for_example(self):
        self.assertIs(is_falls_paper(PAIR, [2, 2], [FAR, NEAR]), True)
        self.assertIs(is_falls_paper(PAIR, [2, 2], [FAR, FAR]), False)
        self.assertIs(is_falls_paper(THREE, [2, 2], [NEAR, FAR]), False)
        self.assertIs(is_falls_paper(PAIR, [2, 2], [both(NEAR, FAR)]), False)
        self.assertIs(is_falls_paper(PAIR, [2, 1], [NEAR, simple_filling(PAIR, 0)]), False)
        low, high = simple_filling(Web(2, []), 1), simple_filling(Web(2, []), 0)
        self.assertIs(is_falls_paper(Web(2, []), [1, 1], [low, high]), True)
        self.assertIs(is_falls_paper(Web(2, []), [1, 1], [high, low]), False)
        self.assertIs(is_falls_paper(PAIR, [1, 1], [simple_filling(PAIR, 1), simple_filling(PAIR, 0)]), False)
        self.assertIs(is_falls_paper(Web(2, []), [2, 0], [high, high]), True)


if __name__ == "__main__":
    unittest.main()
