"""[6], [1b2] to [1b4]: rows, forms, simple rows, ways' rows, rows below."""

import itertools
import random
import unittest

from sureparts.errors import InvalidPlace, InvalidRow, InvalidWeb, TooMany
from sureparts.rows import form, is_row, rows_below, simple_row, ways_row
from sureparts.webs import Web, turned_web
from tests.helpers import STRANGE, WEBS, Case, drawn_row

NO_ROWS = STRANGE + [0, 1, [], (), [1], [1, 1], [1, 1, 1, 1], [7, 0, 0], [0, 0, 7], [-1, 0, 0], [True, 1, 1],
                     [1, 1, False], [1, None, 1], [1, "1", 1], [1, [1], 1], [1, (1,), 1], "111", {0: 1, 1: 1, 2: 1},
                     [10 ** 30, 0, 0]]
NO_WEBS = STRANGE + [3, [], (), (2, [(0, 1)]), [(0, 1)]]
NO_PLACES = STRANGE + [3, -1, 10 ** 30, [], [0], (0,)]


class Rows(Case):
    def setUp(self):
        self.web = Web(3, [(0, 1), (1, 2), (0, 2)])

    def test_is_row(self):
        for value in ([0, 0, 0], (1, 2, 3), [6, 6, 6], (6, 0, 6)):
            self.assertIs(is_row(self.web, value), True)
            self.assertIs(is_row(value=value, web=self.web), True)
        for value in NO_ROWS:
            self.assertIs(is_row(self.web, value), False)

    def test_is_row_by_sums(self):
        five, many = Web(5, []), Web(13, [])
        self.assertIs(is_row(five, [6, 6, 6, 6, 0]), True)
        self.assertIs(is_row(five, [6, 6, 6, 6, 1]), False)
        self.assertIs(is_row(many, [2] * 12 + [0]), True)
        self.assertIs(is_row(many, [2] * 12 + [1]), False)
        self.assertIs(is_row(many, [6] * 13), False)
        self.assertIs(is_row(Web(1, []), [6]), True)
        self.assertIs(is_row(Web(1, []), [7]), False)

    def test_no_web(self):
        for value in NO_WEBS:
            self.told(InvalidWeb, {"value": value}, is_row, value, [1])
            self.told(InvalidWeb, {"value": value}, form, value, None, None)
            self.told(InvalidWeb, {"value": value}, rows_below, value, None)
            self.told(InvalidWeb, {"value": value}, simple_row, value, None)
            self.told(InvalidWeb, {"value": value}, ways_row, web=value, place=None)

    def test_no_row(self):
        for value in NO_ROWS:
            self.told(InvalidRow, {"value": value}, form, self.web, value, [0, 0, 0])
            self.told(InvalidRow, {"value": value}, form, self.web, [0, 0, 0], value)
            self.told(InvalidRow, {"value": value}, form, web=self.web, row=value, other=[9])
            self.told(InvalidRow, {"value": value}, rows_below, self.web, value)
            self.told(InvalidRow, {"value": value}, rows_below, row=value, web=self.web)
        above = [6, 6, 6, 6, 1]
        self.told(InvalidRow, {"value": above}, rows_below, Web(5, []), above)

    def test_no_place(self):
        for value in NO_PLACES:
            for action in (simple_row, ways_row):
                self.told(InvalidPlace, {"value": value}, action, self.web, value)
                self.told(InvalidPlace, {"value": value}, action, place=value, web=self.web)

    def test_arguments_stay(self):
        row, other = [1, 2, 1], [2, 0, 1]
        is_row(self.web, row)
        form(self.web, row, other)
        rows_below(self.web, row)
        self.same([row, other], [[1, 2, 1], [2, 0, 1]])


class Forms(Case):
    def test_by_definition(self):
        source = random.Random(1)
        for web in WEBS:
            for _ in range(10):
                row, other = drawn_row(source, web, 3), drawn_row(source, web, 3)
                wanted = 0
                for place in range(web.places):
                    wanted += row[place] * other[place]
                for tail, head in web.arrows():
                    wanted -= row[tail] * other[head]
                self.same(form(web, row, other), wanted)
                self.same(form(other=tuple(other), row=tuple(row), web=web), wanted)
                self.same(form(turned_web(web), other, row), wanted)

    def test_of_simple_rows_and_ways_rows(self):
        source = random.Random(2)
        for web in WEBS:
            arrows = web.arrows()
            for place in range(web.places):
                for other in range(web.places):
                    wanted = (1 if place == other else 0) - arrows.count((place, other))
                    self.assertEqual(form(web, simple_row(web, place), simple_row(web, other)), wanted)
                for _ in range(5):
                    row = drawn_row(source, web, 3)
                    wanted = row[place] - sum(row[head] for tail, head in arrows if tail == place)
                    self.assertEqual(form(web, simple_row(web, place), row), wanted)
                    self.assertEqual(form(web, ways_row(web, place), row), row[place])


class RowsBelow(Case):
    def test_by_definition(self):
        source = random.Random(3)
        for web in WEBS:
            row = drawn_row(source, web, 3)
            wanted = [list(less) for less in itertools.product(range(7), repeat=web.places)
                      if all(a <= b for a, b in zip(less, row))]
            self.same(rows_below(web, row), wanted)
            self.same(rows_below(row=tuple(row), web=web), wanted)
            self.assertEqual(wanted, sorted(wanted))

    def test_400_and_more(self):
        four, five = Web(4, []), Web(5, [])
        self.assertEqual(len(rows_below(four, [4, 4, 3, 3])), 400)
        wanted = {"what": "rows", "limit": 400}
        self.told(TooMany, wanted, rows_below, five, [4, 2, 2, 2, 2])
        self.told(TooMany, wanted, rows_below, four, [6, 6, 6, 6])
        self.told(TooMany, wanted, rows_below, Web(13, []), [1] * 13)
        self.assertEqual(len(rows_below(Web(13, []), [1] * 8 + [0] * 5)), 256)

    def test_noughts(self):
        self.same(rows_below(Web(3, []), (0, 0, 0)), [[0, 0, 0]])

    def test_new(self):
        self.new_list(lambda: rows_below(Web(2, []), [1, 2]))


class SimpleRowsWaysRows(Case):
    def test_simple(self):
        for web in WEBS:
            for place in range(web.places):
                self.same(simple_row(web, place), [1 if at == place else 0 for at in range(web.places)])
                self.same(simple_row(place=place, web=web), simple_row(web, place))
        self.new_list(lambda: simple_row(WEBS[3], 1))

    def test_ways(self):
        for web in WEBS:
            for place in range(web.places):
                wanted = [len(web.ways(place, other)) for other in range(web.places)]
                self.same(ways_row(web, place), wanted)
                self.same(ways_row(place=place, web=web), wanted)
        self.new_list(lambda: ways_row(WEBS[3], 0))

    def test_sizes_6_and_7(self):
        self.same(ways_row(Web(2, [(0, 1)] * 6), 0), [1, 6])
        self.told(TooMany, {"what": "row", "limit": 6}, ways_row, Web(2, [(0, 1)] * 7), 0)
        self.same(ways_row(Web(2, [(0, 1)] * 7), 1), [0, 1])

    def test_sums_24_and_25(self):
        arrows = [(0, 1)] * 2 + [(1, 2)] * 3 + [(2, 3), (2, 4), (1, 5), (0, 6)]
        self.same(ways_row(Web(8, arrows), 0), [1, 2, 6, 6, 6, 2, 1, 0])
        self.told(TooMany, {"what": "sum", "limit": 24}, ways_row, Web(8, arrows + [(0, 7)]), 0)
        self.told(TooMany, {"what": "row", "limit": 6}, ways_row, Web(8, arrows + [(0, 7), (3, 4)]), 0)


if __name__ == "__main__":
    unittest.main()
