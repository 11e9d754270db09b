"""[4a1] to [4a5]: sure parts, the least lack, the least maps; of [4] LEAST AND GREATEST."""

import random
import unittest

from sureparts.errors import InvalidRow, InvalidWeb, TooMany
from sureparts.fillings import drawn_filling, simple_filling, ways_filling
from sureparts.maps import lack, maps_many
from sureparts.rows import form, ways_row
from sureparts.sure import is_sure, least_lack, least_maps, sure_parts
from sureparts.webs import Web, turned_web
from tests.helpers import NO_WEBS, WEBS, Case, below, drawn, drawn_row, no_rows, rows_at, taken_off

PAIR, CHAIN = Web(2, [(0, 1), (0, 1)]), Web(3, [(0, 1), (1, 2)])
MANY = {"what": "rows", "limit": 400}


def told_sure(web, row, whole, known):
    """Whether the row is a sure part of whole, by the words of [4a1]; both are so if they are one row."""
    if row == whole:
        return True
    key = (tuple(row), tuple(whole))
    if key not in known:
        known[key] = all(form(web, part, taken_off(whole, row)) >= 0
                         for part in below(row) if told_sure(web, part, row, known))
    return known[key]


class SureParts(Case):
    def test_by_definition(self):
        for web, _, row in rows_at(1, 60):
            known = {}
            wanted = [part for part in below(row) if told_sure(web, part, row, known)]
            self.same(sure_parts(web, row), wanted)
            self.same(sure_parts(row=tuple(row), web=web), wanted)
            self.assertEqual(wanted, sorted(wanted))
            for part in below(row):
                self.assertIs(is_sure(web, part, row), part in wanted)
                self.assertIs(is_sure(whole=tuple(row), row=tuple(part), web=web), part in wanted)

    def test_greater_sizes(self):
        for web, row in ((PAIR, [5, 6]), (CHAIN, [3, 4, 3]), (Web(2, [(1, 0)] * 3), [6, 5])):
            known = {}
            self.same(sure_parts(web, row), [part for part in below(row) if told_sure(web, part, row, known)])

    def test_noughts_and_itself(self):
        for web, _, row in rows_at(2, 30):
            zeros = [0] * web.places
            told = sure_parts(web, row)
            self.same(told[0], zeros)
            self.same(told[-1], row)
            self.assertIs(is_sure(web, zeros, row), True)
            self.assertIs(is_sure(web, row, row), True)
            self.same(sure_parts(web, zeros), [zeros])
            self.assertIs(is_sure(web, row, zeros), not any(row))

    def test_not_at_most(self):
        self.assertIs(is_sure(PAIR, [0, 3], [2, 2]), False)
        self.assertIs(is_sure(PAIR, [3, 0], [2, 2]), False)
        self.assertIs(is_sure(PAIR, [2, 3], [6, 2]), False)
        self.assertIs(is_sure(Web(2, []), [2, 1], [1, 2]), False)

    def test_without_arrows_all_are_sure(self):
        for web, row in ((Web(3, []), [2, 1, 3]), (Web(1, []), [6]), (Web(13, []), [1] * 5 + [0] * 8)):
            self.same(sure_parts(web, row), below(row))

    def test_for_example(self):
        self.assertIs(is_sure(PAIR, [1, 1], [2, 2]), True)
        self.assertIs(is_sure(PAIR, [1, 0], [2, 2]), False)
        self.assertEqual(least_lack(PAIR, [1, 0], [1, 2]), 3)
        self.same(sure_parts(Web(2, [(0, 1)]), [1, 1]), [[0, 0], [0, 1], [1, 1]])
        self.same(sure_parts(CHAIN, [1, 1, 1]), [[0, 0, 0], [0, 0, 1], [0, 1, 1], [1, 1, 1]])

    def test_one_arrow(self):
        # A table has a part of the sizes low, high if the lists that it leads to noughts leave few enough others.
        web = Web(2, [(0, 1)])
        for tail in range(5):
            for head in range(5):
                for low, high in below([tail, head]):
                    every = all(low - (tail - many) <= high for many in range(min(tail, head) + 1))
                    self.assertIs(is_sure(web, [low, high], [tail, head]), every)

    def test_400_rows_and_more(self):
        four, five = Web(4, [(0, 1), (2, 3)]), Web(5, [(0, 1), (2, 3)])
        self.assertEqual(sure_parts(four, [4, 4, 3, 3])[-1], [4, 4, 3, 3])
        self.assertEqual(len(sure_parts(Web(4, []), [4, 4, 3, 3])), 400)
        much, small = [4, 2, 2, 2, 2], [1, 0, 0, 0, 1]
        self.told(TooMany, MANY, sure_parts, five, much)
        for action in (is_sure, least_lack, least_maps):
            self.told(TooMany, MANY, action, five, much, small)
            self.told(TooMany, MANY, action, five, much, [6, 6, 4, 4, 4])
            self.told(InvalidRow, {"value": [7] * 5}, action, five, much, [7] * 5)
        # It is the row alone whose rows below are counted.
        self.assertIs(is_sure(five, [0, 1, 0, 1, 0], much), True)
        self.assertEqual(least_lack(five, small, much), max(0, -form(five, small, much), -form(five, [0] * 5, much),
                                                            -form(five, [1, 0, 0, 0, 0], much)))
        self.assertEqual(least_maps(five, [0, 1, 0, 1, 0], much), 4)

    def test_new_and_arguments_stay(self):
        self.new_list(lambda: sure_parts(PAIR, [2, 2]))
        row, other = [2, 1], [2, 2]
        for action in (is_sure, least_lack, least_maps):
            action(PAIR, row, other)
        sure_parts(PAIR, row)
        self.same([row, other], [[2, 1], [2, 2]])

    def test_errors(self):
        for value in NO_WEBS:
            self.told(InvalidWeb, {"value": value}, sure_parts, value, None)
            self.told(InvalidWeb, {"value": value}, sure_parts, row=None, web=value)
            for action in (is_sure, least_lack, least_maps):
                self.told(InvalidWeb, {"value": value}, action, value, None, None)
        for value in no_rows(PAIR):
            self.told(InvalidRow, {"value": value}, sure_parts, PAIR, value)
            self.told(InvalidRow, {"value": value}, is_sure, PAIR, value, "later")
            self.told(InvalidRow, {"value": value}, is_sure, whole=value, row=[1, 1], web=PAIR)
            for action in (least_lack, least_maps):
                self.told(InvalidRow, {"value": value}, action, PAIR, value, "later")
                self.told(InvalidRow, {"value": value}, action, PAIR, [1, 1], value)
                self.told(InvalidRow, {"value": value}, action, other=value, row=[1, 1], web=PAIR)


class LeastLack(Case):
    def test_greatest_contrary_from_either_side(self):
        for web, source, row in rows_at(3, 60):
            other = drawn_row(source, web)
            told = least_lack(web, row, other)
            self.same(told, max(-form(web, part, other) for part in sure_parts(web, row)))
            self.same(told, max(-form(web, row, taken_off(other, part)) for part in sure_parts(web, other)))
            self.same(least_lack(other=tuple(other), row=tuple(row), web=web), told)
            self.same(least_maps(web, row, other), form(web, row, other) + told)
            self.same(least_maps(other=tuple(other), row=tuple(row), web=web), form(web, row, other) + told)
            self.assertGreaterEqual(told, 0)
            self.assertGreaterEqual(least_maps(web, row, other), 0)

    def test_no_drawn_pair_lacks_less_and_some_pair_so_much(self):
        for web, source, row in rows_at(4, 40):
            other = drawn_row(source, web)
            least, many = least_lack(web, row, other), least_maps(web, row, other)
            for _ in range(4):
                pair = drawn(source, web, row), drawn(source, web, other)
                self.assertGreaterEqual(lack(*pair), least)
                self.assertGreaterEqual(maps_many(*pair), many)
            pairs = [(drawn_filling(web, row, seed), drawn_filling(web, other, seed + 50)) for seed in range(3)]
            self.assertEqual(min(lack(*pair) for pair in pairs), least)
            self.assertEqual(min(maps_many(*pair) for pair in pairs), many)

    def test_each_sure_part_bounds_every_pair(self):
        for web, source, row in rows_at(5, 25):
            other = drawn_row(source, web)
            pair = drawn(source, web, row), drawn(source, web, other)
            for part in sure_parts(web, row):
                self.assertGreaterEqual(lack(*pair), -form(web, part, other))

    def test_sure_exactly_if_least_lack_0(self):
        for web, _, row in rows_at(6, 40):
            for part in below(row):
                self.assertIs(is_sure(web, part, row), least_lack(web, part, taken_off(row, part)) == 0)

    def test_simple_rows_and_rows_of_ways(self):
        source = random.Random(7)
        for web in WEBS:
            for place in range(web.places):
                for other in range(web.places):
                    one, late = simple_filling(web, place).row(), simple_filling(web, other).row()
                    self.assertEqual(least_lack(web, one, late), web.arrows().count((place, other)))
                row = drawn_row(source, web, 3)
                self.assertEqual(least_lack(web, ways_row(web, place), row), 0)
                self.assertEqual(least_maps(web, ways_row(web, place), row), row[place])
                self.assertEqual(lack(ways_filling(web, place), drawn_filling(web, row, 1)), 0)

    def test_beyond_one_row(self):
        # Both rows together are none of the web.
        web = Web(2, [(0, 1)])
        self.assertEqual([least_lack(web, [6, 0], [0, 6]), least_lack(web, [0, 6], [6, 0])], [36, 0])
        self.assertEqual([least_lack(web, [6, 6], [6, 6]), least_maps(web, [6, 6], [6, 6])], [0, 36])


class SureOfSure(Case):
    def test_sure_parts_of_sure_parts(self):
        for web, _, row in rows_at(8, 40):
            told = sure_parts(web, row)
            for part in told:
                for inner in sure_parts(web, part):
                    self.assertIn(inner, told)

    def test_turned_about(self):
        for web, source, row in rows_at(9, 40):
            about = sorted(taken_off(row, part) for part in sure_parts(web, row))
            self.same(sure_parts(turned_web(web), row), about)
            other = drawn_row(source, web)
            self.assertEqual(least_lack(turned_web(web), other, row), least_lack(web, row, other))


if __name__ == "__main__":
    unittest.main()
