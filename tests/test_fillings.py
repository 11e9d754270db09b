"""[7], [2a1] to [2a7]: fillings."""

import random
import unittest

from sureparts.errors import (InvalidFilling, InvalidMany, InvalidPlace, InvalidRow, InvalidTables, InvalidWay,
                              InvalidWeb, TooMany, UnlikeWebs)
from sureparts.fillings import (Filling, both, drawn_filling, exchanged, nought_filling, simple_filling,
                                turned_filling, ways_filling)
from sureparts.maps import is_map, lack, maps_many
from sureparts.reduced import undone
from sureparts.rows import ways_row
from sureparts.tables import Table, nought, times, turned, unit
from sureparts.webs import Web, turned_web
from tests.helpers import PRIME, STRANGE, WEBS, Case, drawn, drawn_row, drawn_table, pairs, product, undone_table

PAIR = Web(2, [(0, 1), (0, 1)])
CHAIN = Web(3, [(0, 1), (1, 2)])
NO_WEBS = STRANGE + [3, [], (), (2, [(0, 1)]), [(0, 1)]]
NO_FILLINGS = STRANGE + [0, [], (), [1, 1], PAIR, unit(1), (PAIR, [0, 0], [unit(0), unit(0)])]


def rows_of(filling):
    return [table.rows() for table in filling.tables()]


class Fillings(Case):
    def test_kept(self):
        row, tables = [1, 2], [Table(2, 1, [[1], [2]]), Table(2, 1, [[3], [4]])]
        filling = Filling(PAIR, row, tables)
        self.assertTrue(filling.web() == PAIR)
        self.same(filling.row(), [1, 2])
        self.same(rows_of(filling), [[[1], [2]], [[3], [4]]])
        named = Filling(tables=tuple(tables), row=(1, 2), web=Web(2, ((0, 1), (0, 1))))
        self.same(named.row(), [1, 2])
        self.assertIs(type(named.tables()), list)
        self.assertTrue(named == filling)
        self.same([row, len(tables)], [[1, 2], 2])
        row[0] = 5
        tables.pop()
        self.same(filling.row(), [1, 2])
        self.same(rows_of(filling), [[[1], [2]], [[3], [4]]])

    def test_new(self):
        filling = drawn_filling(PAIR, [2, 1], 3)
        self.new_list(filling.row)
        told = filling.tables()
        told.pop()
        self.assertEqual(len(filling.tables()), 2)

    def test_size_0(self):
        filling = Filling(CHAIN, [0, 2, 0], [Table(2, 0, [[], []]), Table(0, 2, [])])
        self.same(rows_of(filling), [[[], []], []])
        self.same(rows_of(Filling(CHAIN, [0, 0, 0], [unit(0), unit(0)])), [[], []])
        self.same(rows_of(Filling(Web(1, []), [6], [])), [])

    def test_no_web(self):
        for value in NO_WEBS:
            self.told(InvalidWeb, {"value": value}, Filling, value, None, None)
            self.told(InvalidWeb, {"value": value}, nought_filling, value, None)
            self.told(InvalidWeb, {"value": value}, simple_filling, value, None)
            self.told(InvalidWeb, {"value": value}, ways_filling, value, None)
            self.told(InvalidWeb, {"value": value}, drawn_filling, value, None, None)

    def test_no_row(self):
        for value in STRANGE + [0, [], (), [1], [1, 1, 1], [7, 0], [1, -1], [True, 1], [1, False], "11", [1, None]]:
            self.told(InvalidRow, {"value": value}, Filling, PAIR, value, None)
            self.told(InvalidRow, {"value": value}, Filling, tables=[], row=value, web=PAIR)
            self.told(InvalidRow, {"value": value}, nought_filling, PAIR, value)
            self.told(InvalidRow, {"value": value}, drawn_filling, PAIR, value, None)

    def test_no_place(self):
        for value in STRANGE + [2, -1, [0], (0,), []]:
            self.told(InvalidPlace, {"value": value}, simple_filling, PAIR, value)
            self.told(InvalidPlace, {"value": value}, ways_filling, place=value, web=PAIR)

    def test_no_tables(self):
        good = [nought(2, 1), nought(2, 1)]
        wrong = [[], good[:1], good + [nought(2, 1)], [good[0], nought(1, 2)], [nought(1, 1), good[1]],
                 [good[0], nought(2, 2)], [good[0], [[0], [0]]], [good[0], None], [[[0], [0]], [[0], [0]]], "ab",
                 [good[0], (2, 1, [[0], [0]])], {0: good[0], 1: good[1]}, good[0]]
        for value in wrong + STRANGE + [0]:
            self.told(InvalidTables, {"value": value}, Filling, PAIR, [1, 2], value)
            self.told(InvalidTables, {"value": value}, Filling, tables=value, web=PAIR, row=(1, 2))
        self.told(InvalidTables, {"value": [nought(0, 1)]}, Filling, Web(2, [(0, 1)]), [0, 0], [nought(0, 1)])
        self.told(InvalidTables, {"value": [nought(1, 0)]}, Filling, Web(2, [(0, 1)]), [0, 0], [nought(1, 0)])
        self.told(InvalidTables, {"value": [unit(1)]}, Filling, Web(1, []), [1], [unit(1)])

    def test_equal(self):
        filling = Filling(PAIR, [1, 1], [unit(1), nought(1, 1)])
        self.assertIs(filling == Filling(Web(2, [(0, 1)] * 2), (1, 1), (unit(1), nought(1, 1))), True)
        self.assertIs(filling != Filling(Web(2, [(0, 1)] * 2), (1, 1), (unit(1), nought(1, 1))), False)
        self.assertIs(filling == Filling(PAIR, [1, 1], [nought(1, 1), unit(1)]), False)
        self.assertIs(nought_filling(PAIR, [0, 1]) == nought_filling(PAIR, [0, 2]), False)
        one, other = Web(2, []), Web(3, [])
        self.assertIs(Filling(one, [1, 0], []) == Filling(one, [0, 1], []), False)
        self.assertIs(Filling(one, [1, 0], []) == Filling(other, [1, 0, 0], []), False)
        about = Filling(turned_web(PAIR), [1, 1], [unit(1), nought(1, 1)])
        self.assertIs(filling == about, False)
        for value in NO_FILLINGS:
            self.assertIs(filling == value, False)
            self.assertIs(filling != value, True)


class Along(Case):
    def test_along_by_definition(self):
        source = random.Random(1)
        for web in WEBS:
            for _ in range(3):
                filling = drawn(source, web, drawn_row(source, web, 3))
                ways = [way for place in range(web.places) for other in range(web.places)
                        for way in web.ways(place, other) if way]
                for way in ways:
                    tail, head = web.arrows()[way[0]][0], web.arrows()[way[-1]][1]
                    wide = filling.row()[tail]
                    rows = unit(wide).rows()
                    for at in way:
                        rows = product(filling.tables()[at].rows(), rows, wide)
                    self.assertTrue(filling.along(way) == Table(filling.row()[head], wide, rows))
                    self.assertTrue(filling.along(way=way) == filling.along(way))

    def test_size_0_on_the_way(self):
        filling = nought_filling(CHAIN, [2, 0, 3])
        self.assertTrue(filling.along((0, 1)) == nought(3, 2))

    def test_long_way(self):
        chain = Web(13, [(at, at + 1) for at in range(12)])
        filling = Filling(chain, [1] * 13, [Table(1, 1, [[2]])] * 12)
        self.same(filling.along(tuple(range(12))).rows(), [[4096]])

    def test_no_way(self):
        filling = nought_filling(CHAIN, [1, 1, 1])
        for value in STRANGE + [0, [], [0], [0, 1], (), (1, 0), (0, 0), (2,), (-1,), (0, 2), (True,), (False, 1),
                                (0, True), (None,), ("0",), ((0,),), (0, 1, 1)]:
            self.told(InvalidWay, {"value": value}, filling.along, value)
            self.told(InvalidWay, {"value": value}, filling.along, way=value)
        none = Filling(Web(1, []), [1], [])
        for value in ((), (0,)):
            self.told(InvalidWay, {"value": value}, none.along, value)


class Made(Case):
    def test_nought(self):
        for web in WEBS:
            row = [at % 3 for at in range(web.places)]
            filling = nought_filling(web, row)
            self.assertTrue(filling.web() == web)
            self.same(filling.row(), row)
            self.same(rows_of(filling), [[[0] * row[tail] for _ in range(row[head])] for tail, head in web.arrows()])
            self.assertTrue(nought_filling(row=tuple(row), web=web) == filling)

    def test_simple(self):
        for web in WEBS:
            for place in range(web.places):
                row = [1 if at == place else 0 for at in range(web.places)]
                self.assertTrue(simple_filling(web, place) == nought_filling(web, row))
                self.assertTrue(simple_filling(place=place, web=web) == nought_filling(web, row))

    def test_ways_by_definition(self):
        for web in WEBS:
            for place in range(web.places):
                filling = ways_filling(web, place)
                self.same(filling.row(), ways_row(web, place))
                self.assertTrue(ways_filling(place=place, web=web) == filling)
                for at, (tail, head) in enumerate(web.arrows()):
                    near, far = web.ways(place, tail), web.ways(place, head)
                    wanted = [[0] * len(near) for _ in far]
                    for column, way in enumerate(near):
                        wanted[far.index(way + (at,))][column] = 1
                    self.same(filling.tables()[at].rows(), wanted)

    def test_ways_lack_nothing(self):
        for web, _, filling, _ in pairs(2):
            for place in range(web.places):
                ways = ways_filling(web, place)
                self.assertEqual([lack(ways, filling), maps_many(ways, filling)], [0, filling.row()[place]])

    def test_ways_too_many(self):
        self.same(ways_filling(Web(2, [(0, 1)] * 6), 0).row(), [1, 6])
        self.told(TooMany, {"what": "row", "limit": 6}, ways_filling, Web(2, [(0, 1)] * 7), 0)
        arrows = [(0, 1)] * 2 + [(1, 2)] * 3 + [(2, 3), (2, 4), (1, 5), (0, 6)]
        self.assertEqual(sum(ways_filling(Web(8, arrows), 0).row()), 24)
        self.told(TooMany, {"what": "sum", "limit": 24}, ways_filling, Web(8, arrows + [(0, 7)]), 0)
        self.told(TooMany, {"what": "row", "limit": 6}, ways_filling, Web(8, arrows + [(0, 7), (3, 4)]), 0)

    def test_drawn_by_definition(self):
        for web in WEBS:
            row = [(at + 2) % 4 for at in range(web.places)]
            for many in (0, 1, 77, 10006):
                filling = drawn_filling(web, row, many)
                self.same(filling.row(), row)
                rest, counted = many, 0
                for (tail, head), rows in zip(web.arrows(), rows_of(filling)):
                    self.assertEqual(len(rows), row[head])
                    for line in rows:
                        self.assertEqual(len(line), row[tail])
                        for told in line:
                            counted += 1
                            rest = (rest * rest + 4271 * counted + many + 1) % PRIME
                            self.assertEqual(told, rest)
                self.assertTrue(drawn_filling(many=many, row=tuple(row), web=web) == filling)

    def test_no_many(self):
        for value in STRANGE + [-1, 10007, 10 ** 30, [], [1], (1,)]:
            self.told(InvalidMany, {"value": value}, drawn_filling, PAIR, [1, 1], value)
            self.told(InvalidMany, {"value": value}, drawn_filling, many=value, web=PAIR, row=[0, 0])

    def test_row_stays(self):
        row = [1, 2]
        nought_filling(PAIR, row)
        drawn_filling(PAIR, row, 1)
        self.same(row, [1, 2])


class Both(Case):
    def test_by_definition(self):
        for web, _, filling, other in pairs(3):
            told = both(filling, other)
            row, late = filling.row(), other.row()
            self.same(told.row(), [size + more for size, more in zip(row, late)])
            for at, (tail, head) in enumerate(web.arrows()):
                wanted = [line + [0] * late[tail] for line in rows_of(filling)[at]]
                wanted += [[0] * row[tail] + line for line in rows_of(other)[at]]
                self.same(rows_of(told)[at], wanted)
            self.assertTrue(both(other=other, filling=filling) == told)
            self.assertTrue(told.web() == web)

    def test_maps_and_lacks_add_up(self):
        for web, source, filling, other in pairs(4):
            third = drawn(source, web, drawn_row(source, web))
            told = both(filling, other)
            for action in (maps_many, lack):
                self.assertEqual(action(told, third), action(filling, third) + action(other, third))
                self.assertEqual(action(third, told), action(third, filling) + action(third, other))

    def test_too_many(self):
        five = Web(5, [(0, 1)])
        told = both(nought_filling(five, [6, 0, 6, 3, 3]), nought_filling(five, [0, 6, 0, 0, 0]))
        self.same(told.row(), [6, 6, 6, 3, 3])
        one = nought_filling(five, [0, 0, 0, 0, 1])
        self.told(TooMany, {"what": "sum", "limit": 24}, both, told, one)
        self.told(TooMany, {"what": "sum", "limit": 24}, both, one, told)
        self.told(TooMany, {"what": "row", "limit": 6}, both, nought_filling(five, [0, 0, 4, 0, 0]),
                  nought_filling(five, [0, 0, 3, 0, 0]))
        self.told(TooMany, {"what": "row", "limit": 6}, both, told, nought_filling(five, [1, 0, 0, 0, 0]))
        self.told(TooMany, {"what": "row", "limit": 6}, both, told, told)

    def test_no_fillings(self):
        one = nought_filling(PAIR, [1, 1])
        for value in NO_FILLINGS:
            self.told(InvalidFilling, {"value": value}, both, value, one)
            self.told(InvalidFilling, {"value": value}, both, one, value)
            self.told(InvalidFilling, {"value": value}, both, other="later", filling=value)

    def test_unlike_webs(self):
        high = nought_filling(Web(2, [(0, 1)] * 2), [6, 6])
        for web in (Web(2, [(0, 1)]), turned_web(PAIR), Web(3, [(0, 1)] * 2), Web(2, [])):
            other = nought_filling(web, [6] + [0] * (web.places - 1))
            self.told(UnlikeWebs, {}, both, high, other)
            self.told(UnlikeWebs, {}, both, other=high, filling=other)


class Turned(Case):
    def test_by_definition(self):
        for web, _, filling, _ in pairs(5):
            told = turned_filling(filling)
            self.assertTrue(told.web() == turned_web(web))
            self.same(told.row(), filling.row())
            self.assertTrue(told.tables() == [turned(table) for table in filling.tables()])
            self.assertTrue(turned_filling(filling=told) == filling)

    def test_maps_go_the_other_way(self):
        for _, _, filling, other in pairs(6):
            about, behind = turned_filling(filling), turned_filling(other)
            self.assertEqual(maps_many(behind, about), maps_many(filling, other))
            self.assertEqual(lack(behind, about), lack(filling, other))

    def test_no_filling(self):
        for value in NO_FILLINGS:
            self.told(InvalidFilling, {"value": value}, turned_filling, value)
            self.told(InvalidFilling, {"value": value}, turned_filling, filling=value)


class Exchanged(Case):
    def test_by_definition(self):
        for web, source, filling, third in pairs(7, most=3):
            tables = [undone_table(source, size) for size in filling.row()]
            told = exchanged(filling, tables)
            self.same(told.row(), filling.row())
            self.assertTrue(told.web() == web)
            for (tail, head), table, late in zip(web.arrows(), filling.tables(), told.tables()):
                self.assertTrue(times(late, tables[tail]) == times(tables[head], table))
            self.assertTrue(exchanged(tables=tuple(tables), filling=filling) == told)
            self.assertTrue(exchanged(told, [undone(table) for table in tables]) == filling)
            self.assertIs(is_map(filling, told, tables), True)
            for action in (maps_many, lack):
                self.assertEqual(action(told, third), action(filling, third))
                self.assertEqual(action(third, told), action(third, filling))

    def test_no_tables(self):
        filling, flat = nought_filling(PAIR, [2, 1]), Table(2, 2, [[1, 2], [2, 4]])
        wrong = [[], [unit(2)], [unit(2), unit(1), unit(1)], [unit(1), unit(2)], [unit(2), nought(1, 1)],
                 [flat, unit(1)], [nought(2, 1), unit(1)], [nought(1, 2), unit(1)], [unit(3), unit(1)],
                 [unit(2), [[1]]], [unit(2), None], {0: unit(2), 1: unit(1)}, unit(2)]
        for value in wrong + STRANGE + [0]:
            self.told(InvalidTables, {"value": value}, exchanged, filling, value)
            self.told(InvalidTables, {"value": value}, exchanged, tables=value, filling=filling)

    def test_no_filling(self):
        for value in NO_FILLINGS:
            self.told(InvalidFilling, {"value": value}, exchanged, value, None)
            self.told(InvalidFilling, {"value": value}, exchanged, filling=value, tables=[])

    def test_arguments_stay(self):
        filling, tables = drawn_filling(PAIR, [1, 2], 5), [Table(1, 1, [[2]]), Table(2, 2, [[0, 1], [3, 0]])]
        before = rows_of(filling)
        told = exchanged(filling, tables)
        tables.pop()
        self.same(rows_of(filling), before)
        self.assertEqual(len(told.tables()), 2)


class DrawnTables(Case):
    def test_helpers_draw_undone_tables(self):
        source = random.Random(8)
        for many in range(5):
            self.assertIsNotNone(undone(undone_table(source, many)))
            self.assertEqual(drawn_table(source, many, 2).tall, many)


if __name__ == "__main__":
    unittest.main()
