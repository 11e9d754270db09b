"""[4] ONE RANK, [8], [2b1] to [2b5]: maps and lack."""

import random
import unittest

from sureparts.errors import InvalidFilling, InvalidMap, TooMany, UnlikeWebs
from sureparts.fillings import (Filling, both, drawn_filling, exchanged, nought_filling, simple_filling,
                                turned_filling, ways_filling)
from sureparts.maps import all_maps, both_table, is_map, lack, map_behind, maps_many, unit_map
from sureparts.reduced import kernel, rank
from sureparts.rows import form
from sureparts.tables import Table, beside, nought, plus, scaled, times, unit
from sureparts.webs import Web, turned_web
from tests.helpers import PRIME, STRANGE, WEBS, Case, drawn, drawn_row, drawn_table, pairs, undone_table

PAIR = Web(2, [(0, 1), (0, 1)])
ONE, NAUGHT = Table(1, 1, [[1]]), Table(1, 1, [[0]])
NEAR, FAR = Filling(PAIR, [1, 1], [ONE, NAUGHT]), Filling(PAIR, [1, 1], [NAUGHT, ONE])
NO_FILLINGS = STRANGE + [0, [], (), [1, 1], PAIR, ONE, (PAIR, [0, 0], [unit(0), unit(0)])]
OF_TWO = (both_table, maps_many, lack, all_maps)


def numbers(across):
    return [rest for table in across for row in table.rows() for rest in row]


def differences(filling, other, tables):
    """T at the head times A, less B times T at the tail, told arrow by arrow, row by row, column by column."""
    told = []
    for (tail, head), a, b in zip(filling.web().arrows(), filling.tables(), other.tables()):
        told += numbers([plus(times(tables[head], a), scaled(times(b, tables[tail]), PRIME - 1))])
    return told


def drawn_map(source, filling, other):
    """Some multiples of all maps from filling to other, added up."""
    total = [nought(high, low) for low, high in zip(filling.row(), other.row())]
    for across in all_maps(filling, other):
        rest = source.randrange(PRIME)
        total = [plus(table, scaled(more, rest)) for table, more in zip(total, across)]
    return total


class TableOfBoth(Case):
    def test_leads_numbers_to_differences(self):
        for web, source, filling, other in pairs(1, most=3):
            row, late = filling.row(), other.row()
            told = both_table(filling, other)
            self.assertTrue(both_table(other=other, filling=filling) == told)
            self.assertEqual(told.wide, sum(a * b for a, b in zip(row, late)))
            self.assertEqual(told.tall, sum(row[tail] * late[head] for tail, head in web.arrows()))
            for _ in range(3):
                tables = [drawn_table(source, high, low) for low, high in zip(row, late)]
                column = Table(told.wide, 1, [[rest] for rest in numbers(tables)])
                self.assertEqual([rest for [rest] in times(told, column).rows()], differences(filling, other, tables))

    def test_written_out(self):
        filling = Filling(Web(2, [(0, 1)]), [2, 1], [Table(1, 2, [[2, 3]])])
        other = Filling(Web(2, [(0, 1)]), [1, 2], [Table(2, 1, [[5], [7]])])
        self.same(both_table(filling, other).rows(), [[10002, 0, 2, 0], [0, 10002, 3, 0],
                                                      [10000, 0, 0, 2], [0, 10000, 0, 3]])

    def test_noughts(self):
        self.assertTrue(both_table(simple_filling(PAIR, 0), simple_filling(PAIR, 1)) == nought(2, 0))
        self.assertTrue(both_table(simple_filling(PAIR, 1), simple_filling(PAIR, 0)) == nought(0, 0))
        self.assertTrue(both_table(simple_filling(PAIR, 0), simple_filling(PAIR, 0)) == nought(0, 1))
        empty = nought_filling(PAIR, [0, 0])
        for action in (maps_many, lack):
            self.assertEqual([action(empty, NEAR), action(NEAR, empty), action(empty, empty)], [0, 0, 0])
        self.same([all_maps(empty, NEAR), all_maps(NEAR, empty)], [[], []])

    def test_200_rows_and_more(self):
        web = Web(4, [(0, 1)] * 8 + [(2, 3)])
        high = drawn_filling(web, [5, 0, 1, 0], 3)
        low, more = drawn_filling(web, [0, 5, 0, 0], 4), drawn_filling(web, [0, 5, 0, 1], 5)
        self.assertEqual([both_table(high, low).tall, both_table(high, low).wide], [200, 0])
        self.same([lack(high, low), maps_many(high, low), all_maps(high, low)], [200, 0, []])
        for action in OF_TWO:
            self.told(TooMany, {"what": "size", "limit": 200}, action, high, more)
            self.told(TooMany, {"what": "size", "limit": 200}, action, other=more, filling=high)
        self.assertIs(is_map(high, more, [nought(0, 5), nought(5, 0), nought(0, 1), nought(1, 0)]), True)

    def test_200_rows_that_are_led_to(self):
        web = Web(2, [(0, 1)] * 8)
        one, other = drawn_filling(web, [5, 5], 1), drawn_filling(web, [5, 5], 2)
        told = both_table(one, other)
        self.assertEqual([told.tall, told.wide, rank(told)], [200, 50, 50])
        self.assertEqual([lack(one, other), maps_many(one, other), maps_many(one, one)], [150, 0, 1])

    def test_no_fillings(self):
        for value in NO_FILLINGS:
            for action in OF_TWO:
                self.told(InvalidFilling, {"value": value}, action, value, NEAR)
                self.told(InvalidFilling, {"value": value}, action, NEAR, value)
                self.told(InvalidFilling, {"value": value}, action, other="later", filling=value)
            self.told(InvalidFilling, {"value": value}, is_map, value, NEAR, [])
            self.told(InvalidFilling, {"value": value}, is_map, NEAR, value, [])
            self.told(InvalidFilling, {"value": value}, unit_map, value)
            self.told(InvalidFilling, {"value": value}, unit_map, filling=value)

    def test_unlike_webs(self):
        web = Web(2, [(0, 1)] * 12)
        for other in (nought_filling(Web(2, [(1, 0)]), [6, 6]), nought_filling(Web(3, [(0, 1)] * 12), [6, 6, 0])):
            for action in OF_TWO:
                self.told(UnlikeWebs, {}, action, nought_filling(web, [6, 6]), other)
            self.told(UnlikeWebs, {}, is_map, nought_filling(web, [0, 0]), other, [])
        self.assertEqual(lack(NEAR, nought_filling(Web(2, ((0, 1), (0, 1))), [0, 0])), 0)


class Ranks(Case):
    def test_one_rank(self):
        for web, _, filling, other in pairs(2, most=3, often=8):
            many, lacking = maps_many(filling, other), lack(filling, other)
            self.assertEqual(many - lacking, form(web, filling.row(), other.row()))
            self.assertEqual(many, kernel(both_table(filling, other)).tall)
            told = both_table(filling, other)
            self.assertEqual([many, lacking], [told.wide - rank(told), told.tall - rank(told)])
            self.assertEqual([maps_many(other=other, filling=filling), lack(other=other, filling=filling)],
                             [many, lacking])

    def test_exchanged_on_either_hand(self):
        for _, source, filling, other in pairs(3):
            across = [undone_table(source, size) for size in filling.row()]
            late = [undone_table(source, size) for size in other.row()]
            for action in (maps_many, lack):
                self.assertEqual(action(exchanged(filling, across), exchanged(other, late)), action(filling, other))

    def test_turned_about(self):
        for web, _, filling, other in pairs(4):
            self.assertTrue(turned_filling(other).web() == turned_web(web))
            for action in (maps_many, lack):
                self.assertEqual(action(turned_filling(other), turned_filling(filling)), action(filling, other))

    def test_simple_fillings(self):
        for web in WEBS:
            for place in range(web.places):
                for other in range(web.places):
                    one, late = simple_filling(web, place), simple_filling(web, other)
                    self.assertEqual(maps_many(one, late), 1 if place == other else 0)
                    self.assertEqual(lack(one, late), web.arrows().count((place, other)))
                self.assertTrue(all_maps(one, one) == [unit_map(one)])

    def test_fillings_of_ways_side_by_side_lack_nothing(self):
        for web, source, filling, _ in pairs(5, often=2):
            place, other = source.randrange(web.places), source.randrange(web.places)
            ways = both(ways_filling(web, place), ways_filling(web, other))
            led = exchanged(ways, [undone_table(source, size) for size in ways.row()])
            self.assertEqual(lack(led, filling), 0)
            self.assertEqual(maps_many(led, filling), filling.row()[place] + filling.row()[other])

    def test_lack_is_felt_by_parts(self):
        source = random.Random(6)
        for web in WEBS:
            for _ in range(4):
                part, rest, third = [drawn(source, web, drawn_row(source, web)) for _ in range(3)]
                row, late = part.row(), rest.row()
                tables = []
                for at, (tail, head) in enumerate(web.arrows()):
                    high = beside(part.tables()[at], drawn_table(source, row[head], late[tail]))
                    low = beside(nought(late[head], row[tail]), rest.tables()[at])
                    tables.append(Table(high.tall + low.tall, high.wide, high.rows() + low.rows()))
                whole = Filling(web, [a + b for a, b in zip(row, late)], tables)
                self.assertGreaterEqual(lack(whole, third), lack(part, third))
                self.assertGreaterEqual(lack(third, whole), lack(third, rest))


class Maps(Case):
    def test_all_maps_are_the_kernel_told(self):
        for _, _, filling, other in pairs(7, most=3):
            told = all_maps(filling, other)
            self.assertEqual(len(told), maps_many(filling, other))
            self.assertEqual([numbers(across) for across in told], kernel(both_table(filling, other)).rows())
            for across in told:
                self.assertIs(type(across), list)
                self.assertEqual([(table.tall, table.wide) for table in across],
                                 list(zip(other.row(), filling.row())))
                self.assertIs(is_map(filling, other, across), True)
                self.assertFalse(any(differences(filling, other, across)))
            self.assertTrue(all_maps(other=other, filling=filling) == told)

    def test_new_lists(self):
        twice = both(NEAR, NEAR)
        first = all_maps(twice, twice)
        first[0].append(1)
        first.append(1)
        self.assertEqual(len(all_maps(twice, twice)), 4)
        self.assertEqual(len(all_maps(twice, twice)[0]), 2)
        one = unit_map(NEAR)
        one.append(1)
        self.assertEqual(len(unit_map(NEAR)), 2)

    def test_is_map_exactly_without_differences(self):
        for _, source, filling, other in pairs(8):
            across = drawn_map(source, filling, other)
            self.assertIs(is_map(filling, other, across), True)
            self.assertIs(is_map(value=tuple(across), other=other, filling=filling), True)
            for _ in range(5):
                tables = [drawn_table(source, high, low) for low, high in zip(filling.row(), other.row())]
                self.assertIs(is_map(filling, other, tables), not any(differences(filling, other, tables)))

    def test_is_map_of_any_value(self):
        wide = Filling(PAIR, [2, 1], [nought(1, 2), nought(1, 2)])
        good = [nought(1, 2), nought(1, 1)]
        self.assertIs(is_map(wide, NEAR, good), True)
        wrong = [[], good[:1], good + good[:1], [nought(2, 1), nought(1, 1)], [nought(1, 2), nought(1, 2)],
                 [nought(1, 2), nought(0, 1)], [nought(1, 2), [[0]]], [nought(1, 2), None], [None, None], "ab",
                 {0: good[0], 1: good[1]}, good[0], [[[0, 0]], [[0]]], [good, good]]
        for value in wrong + STRANGE + [0, ()]:
            self.assertIs(is_map(wide, NEAR, value), False)
        self.assertIs(is_map(NEAR, FAR, [ONE, ONE]), False)
        self.assertIs(is_map(NEAR, NEAR, [ONE, NAUGHT]), False)
        self.assertIs(is_map(NEAR, NEAR, [NAUGHT, ONE]), False)

    def test_unit_map(self):
        for _, _, filling, _ in pairs(9):
            told = unit_map(filling)
            self.assertIs(type(told), list)
            self.assertTrue(told == [unit(size) for size in filling.row()])
            self.assertTrue(unit_map(filling=filling) == told)
            self.assertIs(is_map(filling, filling, told), True)

    def test_map_behind(self):
        for web, source, filling, other in pairs(10):
            third = drawn(source, web, drawn_row(source, web))
            across, late = drawn_map(source, filling, other), drawn_map(source, other, third)
            told = map_behind(filling, other, across, third, late)
            self.assertIs(type(told), list)
            self.assertTrue(told == [times(b, a) for a, b in zip(across, late)])
            self.assertIs(is_map(filling, third, told), True)
            named = map_behind(late=tuple(late), third=third, across=tuple(across), other=other, filling=filling)
            self.assertTrue(named == told)
            self.assertTrue(map_behind(filling, filling, unit_map(filling), other, across) == across)
            self.assertTrue(map_behind(filling, other, across, other, unit_map(other)) == across)

    def test_map_behind_of_exchanges(self):
        for _, source, filling, _ in pairs(11, most=3):
            one = [undone_table(source, size) for size in filling.row()]
            other = [undone_table(source, size) for size in filling.row()]
            middle = exchanged(filling, one)
            last = exchanged(middle, other)
            told = map_behind(filling, middle, one, last, other)
            self.assertTrue(exchanged(filling, told) == last)

    def test_map_behind_errors_in_sequence(self):
        one, far = [ONE, ONE], nought_filling(Web(2, [(0, 1)]), [1, 1])
        for value in NO_FILLINGS:
            self.told(InvalidFilling, {"value": value}, map_behind, value, None, None, None, None)
            self.told(InvalidFilling, {"value": value}, map_behind, NEAR, value, None, None, None)
            self.told(InvalidFilling, {"value": value}, map_behind, NEAR, NEAR, one, value, None)
            self.told(InvalidFilling, {"value": value}, map_behind, late=None, third=value, across=one, other=NEAR,
                      filling=NEAR)
        self.told(UnlikeWebs, {}, map_behind, NEAR, far, None, None, None)
        self.told(UnlikeWebs, {}, map_behind, NEAR, NEAR, one, far, None)
        for value in STRANGE + [0, [], (), [ONE], [ONE, NAUGHT], [ONE, ONE, ONE], [[[1]], [[1]]], [unit(2), ONE]]:
            self.told(InvalidMap, {"value": value}, map_behind, NEAR, NEAR, value, None, None)
            self.told(InvalidMap, {"value": value}, map_behind, NEAR, NEAR, one, NEAR, value)
            self.told(InvalidMap, {"value": value}, map_behind, late=value, third=NEAR, across=one, other=NEAR,
                      filling=NEAR)
        self.told(InvalidMap, {"value": one}, map_behind, NEAR, FAR, one, NEAR, one)
        self.told(InvalidMap, {"value": one}, map_behind, NEAR, NEAR, one, FAR, one)

    def test_arguments_stay(self):
        across, late = [ONE, ONE], [Table(1, 1, [[3]])] * 2
        map_behind(NEAR, NEAR, across, NEAR, late)
        is_map(NEAR, NEAR, across)
        for action in OF_TWO:
            action(NEAR, FAR)
        self.assertTrue(across == [ONE, ONE] and late == [Table(1, 1, [[3]])] * 2)
        self.assertTrue(NEAR == Filling(PAIR, [1, 1], [ONE, NAUGHT]))


if __name__ == "__main__":
    unittest.main()
