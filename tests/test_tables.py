"""[5], [1a1], [1a2]: tables, and tables out of tables."""

import random
import unittest

from sureparts.errors import InvalidMany, InvalidRest, InvalidRows, InvalidSize, InvalidTable, TooMany, UnlikeSizes
from sureparts.tables import Table, above, beside, nought, plus, scaled, times, turned, unit
from tests.helpers import PRIME, STRANGE, Case, drawn_table, product

NO_SIZES = STRANGE + [-1, 201, 10 ** 30, [], (), [1], (1,)]
NO_TABLES = STRANGE + [0, 1, [], (), [[1]], (1, 1, [[1]])]


class Tables(Case):
    def test_kept(self):
        table = Table(2, 3, [[0, 1, 10006], [5, 0, 7]])
        self.same([table.tall, table.wide, table.rows()], [2, 3, [[0, 1, 10006], [5, 0, 7]]])
        named = Table(tall=2, wide=3, rows=((0, 1, 10006), [5, 0, 7]))
        self.same(named.rows(), [[0, 1, 10006], [5, 0, 7]])
        self.assertTrue(named == table)

    def test_0_tall_or_0_wide(self):
        for tall, wide, rows in [(0, 0, []), (0, 2, []), (0, 2, ()), (2, 0, [[], []]), (2, 0, ((), ())), (0, 200, [])]:
            table = Table(tall, wide, rows)
            self.same([table.tall, table.wide, table.rows()], [tall, wide, [list(row) for row in rows]])

    def test_200(self):
        table = Table(200, 200, [[10006] * 200] * 200)
        self.same([table.tall, table.wide, len(table.rows()), len(table.rows()[199])], [200, 200, 200, 200])

    def test_sizes_are_counts_to_200(self):
        for value in NO_SIZES:
            self.told(InvalidSize, {"value": value}, Table, value, 1, [[1]])
            self.told(InvalidSize, {"value": value}, Table, 1, value, [[1]])
            self.told(InvalidSize, {"value": value}, Table, tall=1, wide=value, rows=None)
            self.told(InvalidSize, {"value": value}, Table, value, [99], None)

    def test_rows_are_just_so_many_lists_of_just_so_many_rests(self):
        wrong = [[], [[1, 2]], [[1, 2], [3, 4], [5, 6]], [[1, 2], [3]], [[1, 2], [3, 4, 5]], [[1, 2], 3], [12, 34],
                 [[1, 2], "34"], [[1, 2], {3: 3, 4: 4}], ["12", "34"], [[1, 2], None], [[1, 2], [3, True]],
                 [[False, 2], [3, 4]], [[1, 2], [3, 10007]], [[1, -1], [3, 4]], [[1, 2], [3, None]],
                 [[1, 2], [3, [4]]], [[1, 2], [3, (4,)]], [[1, 2], [3, "4"]], {0: [1, 2], 1: [3, 4]}]
        for rows in wrong + STRANGE + [0, 1, unit(2)]:
            self.told(InvalidRows, {"value": rows}, Table, 2, 2, rows)
            self.told(InvalidRows, {"value": rows}, Table, rows=rows, wide=2, tall=2)
        self.told(InvalidRows, {"value": [[]]}, Table, 0, 0, [[]])
        self.told(InvalidRows, {"value": []}, Table, 1, 0, [])
        self.told(InvalidRows, {"value": [[0]]}, Table, 1, 0, [[0]])

    def test_copies(self):
        rows = [[1, 2], [3, 4]]
        table = Table(2, 2, rows)
        self.assertEqual(rows, [[1, 2], [3, 4]])
        rows[0][0] = 9
        rows.append([5, 6])
        self.same(table.rows(), [[1, 2], [3, 4]])
        told = table.rows()
        told[1][1] = 9
        told.pop()
        self.same(table.rows(), [[1, 2], [3, 4]])
        self.new_list(table.rows)
        self.new_list(Table(2, 0, [[], []]).rows)

    def test_never_changes(self):
        table = Table(1, 1, [[1]])
        for name in ("tall", "wide"):
            with self.assertRaises(AttributeError):
                setattr(table, name, 2)

    def test_equal(self):
        low = Table(2, 2, [[1, 2], [3, 4]])
        self.assertIs(low == Table(2, 2, ((1, 2), (3, 4))), True)
        self.assertIs(low != Table(2, 2, ((1, 2), (3, 4))), False)
        self.assertIs(low == Table(2, 2, [[1, 2], [3, 5]]), False)
        self.assertIs(low == Table(2, 1, [[1], [3]]), False)
        self.assertIs(low == Table(1, 2, [[1, 2]]), False)
        self.assertIs(Table(0, 2, []) == Table(0, 3, []), False)
        self.assertIs(Table(0, 2, []) == Table(0, 2, ()), True)
        self.assertIs(Table(2, 0, [[], []]) == Table(3, 0, [[], [], []]), False)
        self.assertIs(Table(0, 0, []) == Table(0, 1, []), False)
        for value in NO_TABLES + [[[1, 2], [3, 4]], (2, 2, [[1, 2], [3, 4]])]:
            self.assertIs(low == value, False)
            self.assertIs(low != value, True)


class OutOfTables(Case):
    def setUp(self):
        self.source = random.Random(11)
        self.sizes = [(tall, wide) for tall in range(4) for wide in range(4)]

    def test_plus(self):
        for tall, wide in self.sizes:
            one, other = drawn_table(self.source, tall, wide), drawn_table(self.source, tall, wide)
            told = plus(one, other)
            wanted = [[(one.rows()[i][j] + other.rows()[i][j]) % PRIME for j in range(wide)] for i in range(tall)]
            self.assertTrue(told == Table(tall, wide, wanted))
            self.assertTrue(plus(table=one, other=other) == told)
        self.same(plus(Table(1, 2, [[10006, 1]]), Table(1, 2, [[1, 2]])).rows(), [[0, 3]])

    def test_times(self):
        for tall, inner in self.sizes:
            for wide in range(4):
                one, other = drawn_table(self.source, tall, inner), drawn_table(self.source, inner, wide)
                told = times(one, other)
                self.assertTrue(told == Table(tall, wide, product(one.rows(), other.rows(), wide)))
                self.assertTrue(times(table=one, other=other) == told)

    def test_times_0(self):
        self.assertTrue(times(Table(2, 0, [[], []]), Table(0, 3, [])) == nought(2, 3))
        self.assertTrue(times(Table(0, 2, []), nought(2, 3)) == Table(0, 3, []))
        self.assertTrue(times(nought(2, 3), Table(3, 0, [[], [], []])) == Table(2, 0, [[], []]))

    def test_times_leads_behind(self):
        for _ in range(20):
            one, other = drawn_table(self.source, 3, 2), drawn_table(self.source, 2, 4)
            some = drawn_table(self.source, 4, 1)
            self.assertTrue(times(times(one, other), some) == times(one, times(other, some)))

    def test_times_200(self):
        tall = Table(200, 200, [[(i * j + 3 * i) % PRIME for j in range(200)] for i in range(200)])
        self.assertTrue(times(tall, unit(200)) == tall)
        self.assertTrue(times(unit(200), tall) == tall)

    def test_scaled(self):
        for tall, wide in self.sizes:
            for rest in (0, 1, 2, 10006):
                one = drawn_table(self.source, tall, wide)
                wanted = Table(tall, wide, [[own * rest % PRIME for own in row] for row in one.rows()])
                self.assertTrue(scaled(one, rest) == wanted)
                self.assertTrue(scaled(table=one, rest=rest) == wanted)

    def test_turned(self):
        for tall, wide in self.sizes:
            one = drawn_table(self.source, tall, wide)
            wanted = Table(wide, tall, [[one.rows()[i][j] for i in range(tall)] for j in range(wide)])
            self.assertTrue(turned(one) == wanted)
            self.assertTrue(turned(table=one) == wanted)

    def test_unit(self):
        self.assertTrue(unit(0) == Table(0, 0, []))
        self.same(unit(3).rows(), [[1, 0, 0], [0, 1, 0], [0, 0, 1]])
        self.assertTrue(unit(many=2) == Table(2, 2, [[1, 0], [0, 1]]))
        self.assertEqual(unit(200).tall, 200)
        for value in NO_SIZES:
            self.told(InvalidMany, {"value": value}, unit, value)
            self.told(InvalidMany, {"value": value}, unit, many=value)

    def test_nought(self):
        for tall, wide in self.sizes + [(0, 200), (200, 0), (200, 200)]:
            self.assertTrue(nought(tall, wide) == Table(tall, wide, [[0] * wide for _ in range(tall)]))
        self.assertTrue(nought(wide=1, tall=2) == Table(2, 1, [[0], [0]]))
        for value in NO_SIZES:
            self.told(InvalidSize, {"value": value}, nought, value, 1)
            self.told(InvalidSize, {"value": value}, nought, 1, value)
            self.told(InvalidSize, {"value": value}, nought, wide=201, tall=value)

    def test_beside(self):
        for tall, wide in self.sizes:
            for more in range(3):
                one, other = drawn_table(self.source, tall, wide), drawn_table(self.source, tall, more)
                wanted = [one.rows()[i] + other.rows()[i] for i in range(tall)]
                self.assertTrue(beside(one, other) == Table(tall, wide + more, wanted))
                self.assertTrue(beside(table=one, other=other) == Table(tall, wide + more, wanted))

    def test_above(self):
        for tall, wide in self.sizes:
            for more in range(3):
                one, other = drawn_table(self.source, tall, wide), drawn_table(self.source, more, wide)
                self.assertTrue(above(one, other) == Table(tall + more, wide, one.rows() + other.rows()))
                self.assertTrue(above(table=one, other=other) == Table(tall + more, wide, one.rows() + other.rows()))

    def test_too_many(self):
        self.assertEqual(beside(nought(1, 150), nought(1, 50)).wide, 200)
        self.assertEqual(above(nought(150, 1), nought(50, 1)).tall, 200)
        wanted = {"what": "size", "limit": 200}
        self.told(TooMany, wanted, beside, nought(1, 150), nought(1, 51))
        self.told(TooMany, wanted, beside, nought(0, 200), nought(0, 1))
        self.told(TooMany, wanted, above, nought(150, 1), nought(51, 1))
        self.told(TooMany, wanted, above, nought(200, 0), nought(1, 0))
        self.assertEqual(beside(nought(200, 1), nought(200, 1)).tall, 200)
        self.assertEqual(above(nought(1, 200), nought(1, 200)).wide, 200)

    def test_unlike_sizes(self):
        for tall, wide in [(2, 3), (3, 2), (2, 2), (0, 3), (3, 0)]:
            self.told(UnlikeSizes, {}, plus, nought(3, 3), nought(tall, wide))
        self.told(UnlikeSizes, {}, plus, nought(0, 2), nought(0, 3))
        self.told(UnlikeSizes, {}, times, nought(2, 3), nought(2, 3))
        self.told(UnlikeSizes, {}, times, nought(0, 3), nought(0, 0))
        self.told(UnlikeSizes, {}, beside, nought(2, 3), nought(3, 3))
        self.told(UnlikeSizes, {}, above, nought(3, 2), nought(3, 3))
        # TooMany comes last.
        self.told(UnlikeSizes, {}, beside, nought(2, 150), nought(3, 150))
        self.told(UnlikeSizes, {}, above, nought(150, 2), nought(150, 3))

    def test_no_tables(self):
        one = nought(1, 1)
        for value in NO_TABLES:
            for action in (plus, times, beside, above):
                self.told(InvalidTable, {"value": value}, action, value, one)
                self.told(InvalidTable, {"value": value}, action, one, value)
                self.told(InvalidTable, {"value": value}, action, table=value, other="later")
            self.told(InvalidTable, {"value": value}, turned, value)
            self.told(InvalidTable, {"value": value}, turned, table=value)
            self.told(InvalidTable, {"value": value}, scaled, value, 10007)

    def test_no_rests(self):
        for value in STRANGE + [-1, 10007, 10 ** 30, [1], (1,)]:
            self.told(InvalidRest, {"value": value}, scaled, nought(1, 1), value)
            self.told(InvalidRest, {"value": value}, scaled, rest=value, table=nought(0, 0))

    def test_arguments_stay(self):
        one, other = Table(2, 2, [[1, 2], [3, 4]]), Table(2, 2, [[5, 6], [7, 8]])
        for told in (plus(one, other), times(one, other), scaled(one, 3), turned(one), beside(one, other),
                     above(one, other)):
            told.rows()[0][0] = 99
            self.same([one.rows(), other.rows()], [[[1, 2], [3, 4]], [[5, 6], [7, 8]]])


if __name__ == "__main__":
    unittest.main()
