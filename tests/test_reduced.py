"""[1a3] to [1a6]: reduced tables, kernels, undone tables, solutions."""

import random
import unittest

from sureparts.errors import InvalidTable, UnlikeSizes
from sureparts.reduced import heads, kernel, rank, reduced, solved, undone
from sureparts.tables import Table, above, beside, nought, scaled, times, turned, unit
from tests.helpers import PRIME, STRANGE, Case, drawn_table, undone_table

NO_TABLES = STRANGE + [0, 1, [], (), [[1]]]


def drawn_tables(seed):
    """(table, its rank): a table with so many ones on its diagonal, between two that can be undone."""
    source = random.Random(seed)
    for tall in range(6):
        for wide in range(6):
            for many in range(min(tall, wide) + 1):
                rows = [[1 if i == j and i < many else 0 for j in range(wide)] for i in range(tall)]
                middle = Table(tall, wide, rows)
                yield times(times(undone_table(source, tall), middle), undone_table(source, wide)), many


def head(row):
    return [at for at, rest in enumerate(row) if rest != 0][0]


class Reduced(Case):
    def check_is_reduced(self, table):
        rows = table.rows()
        for row in rows:
            self.assertTrue(any(row))
            self.assertEqual(row[head(row)], 1)
            self.assertEqual([other[head(row)] for other in rows if other is not row], [0] * (len(rows) - 1))
        rising = [head(row) for row in rows]
        self.assertEqual(rising, sorted(set(rising)))

    def test_reduced_by_definition_with_the_same_lists(self):
        for table, many in drawn_tables(1):
            told = reduced(table)
            self.check_is_reduced(told)
            self.assertEqual((told.tall, told.wide), (many, table.wide))
            rows = told.rows()
            for row in table.rows():
                left = list(row)
                for step in rows:
                    left = [(a - row[head(step)] * b) % PRIME for a, b in zip(left, step)]
                self.assertFalse(any(left))
            # As tall as the rank, and with the table's lists among its own: so it has no others.

    def test_reduced_of_sparse_tables(self):
        source = random.Random(2)
        for _ in range(150):
            table = drawn_table(source, source.randrange(6), source.randrange(6))
            told = reduced(table)
            self.check_is_reduced(told)
            self.assertTrue(reduced(told) == told)
            self.assertTrue(reduced(above(told, table)) == told)
            across = solved(turned(table), turned(told))
            self.assertTrue(times(turned(table), across) == turned(told))

    def test_rank_and_heads(self):
        for table, many in drawn_tables(3):
            self.assertEqual(rank(table), many)
            self.assertEqual(rank(turned(table)), many)
            self.same(heads(table), [head(row) for row in reduced(table).rows()])
        self.same(heads(Table(2, 4, [[0, 2, 1, 0], [0, 4, 2, 5]])), [1, 3])
        self.new_list(lambda: heads(unit(3)))

    def test_same_lists_same_reduced_table(self):
        source = random.Random(4)
        for table, _ in drawn_tables(4):
            other = times(undone_table(source, table.tall), table)
            self.assertTrue(reduced(other) == reduced(table))
            self.assertTrue(reduced(above(table, other)) == reduced(table))

    def test_kernel(self):
        for table, many in drawn_tables(5):
            told = kernel(table)
            self.check_is_reduced(told)
            self.assertEqual((told.tall, told.wide), (table.wide - many, table.wide))
            self.assertTrue(times(table, turned(told)) == nought(table.tall, told.tall))
        source = random.Random(6)
        for _ in range(100):
            table = drawn_table(source, source.randrange(6), source.randrange(6))
            told = kernel(table)
            self.check_is_reduced(told)
            self.assertEqual(told.tall, table.wide - rank(table))
            self.assertTrue(times(table, turned(told)) == nought(table.tall, told.tall))

    def test_edges(self):
        for many in (0, 1, 5, 200):
            self.assertTrue(kernel(nought(0, many)) == unit(many))
            self.assertTrue(kernel(nought(many, 0)) == nought(0, 0))
            self.assertTrue(reduced(nought(many, 0)) == nought(0, 0))
            self.assertTrue(reduced(nought(0, many)) == nought(0, many))
            self.assertTrue(reduced(unit(many)) == unit(many))
            self.assertTrue(undone(unit(many)) == unit(many))
            self.assertEqual([rank(nought(many, many)), rank(unit(many))], [0, many])
            self.assertEqual(heads(nought(many, 3)), [])
            self.assertEqual(heads(unit(many)), list(range(many)))
        self.assertTrue(reduced(nought(3, 2)) == nought(0, 2))

    def test_200(self):
        source = random.Random(7)
        low = Table(200, 200, [[source.randrange(PRIME) if j < i else 2 if i == j else 0 for j in range(200)]
                               for i in range(200)])
        high = times(low, turned(low))
        self.assertEqual(rank(high), 200)
        self.assertTrue(times(high, undone(high)) == unit(200))
        flat = beside(Table(200, 199, [row[:199] for row in high.rows()]), nought(200, 1))
        self.assertEqual(rank(flat), 199)
        self.assertTrue(kernel(flat) == Table(1, 200, [[0] * 199 + [1]]))
        self.assertIsNone(undone(flat))

    def test_undone(self):
        for table, many in drawn_tables(8):
            back = undone(table)
            if table.tall == table.wide == many:
                self.assertTrue(times(back, table) == unit(many))
                self.assertTrue(times(table, back) == unit(many))
                self.assertTrue(undone(back) == table)
            else:
                self.assertIsNone(back)
        self.assertTrue(undone(Table(2, 2, [[0, 1], [2, 0]])) == Table(2, 2, [[0, 5004], [1, 0]]))

    def test_solved(self):
        source = random.Random(9)
        for table, many in drawn_tables(10):
            for wide in (0, 1, 3):
                wished = times(table, drawn_table(source, table.wide, wide))
                told = solved(table, wished)
                self.assertEqual((told.tall, told.wide), (table.wide, wide))
                self.assertTrue(times(table, told) == wished)
                for at, row in enumerate(told.rows()):
                    if at not in heads(table):
                        self.assertFalse(any(row))

    def test_solved_exactly_if_the_rank_stays(self):
        source = random.Random(12)
        seen = []
        for _ in range(200):
            tall = source.randrange(5)
            table, wished = drawn_table(source, tall, source.randrange(5)), drawn_table(source, tall, source.randrange(3))
            told = solved(table, wished)
            stays = rank(table) == rank(beside(table, wished))
            self.assertEqual(told is not None, stays)
            if stays:
                self.assertTrue(times(table, told) == wished)
            seen.append(stays)
        self.assertIn(True, seen)
        self.assertIn(False, seen)

    def test_solved_edges(self):
        self.assertTrue(solved(nought(0, 2), nought(0, 3)) == nought(2, 3))
        self.assertTrue(solved(nought(2, 0), nought(2, 3)) == nought(0, 3))
        self.assertTrue(solved(nought(2, 2), nought(2, 0)) == nought(2, 0))
        self.assertIsNone(solved(nought(1, 0), unit(1)))
        self.assertTrue(solved(unit(200), scaled(unit(200), 3)) == scaled(unit(200), 3))

    def test_unlike_sizes(self):
        self.told(UnlikeSizes, {}, solved, nought(2, 3), nought(3, 2))
        self.told(UnlikeSizes, {}, solved, table=nought(0, 3), wished=nought(1, 3))

    def test_by_name(self):
        low = Table(2, 2, [[1, 2], [0, 1]])
        for action in (reduced, rank, heads, kernel, undone):
            self.assertEqual(action(table=low), action(low))
        self.assertEqual(solved(wished=low, table=unit(2)), low)

    def test_no_tables(self):
        for value in NO_TABLES:
            for action in (reduced, rank, heads, kernel, undone):
                self.told(InvalidTable, {"value": value}, action, value)
                self.told(InvalidTable, {"value": value}, action, table=value)
            self.told(InvalidTable, {"value": value}, solved, value, "later")
            self.told(InvalidTable, {"value": value}, solved, unit(1), value)
            self.told(InvalidTable, {"value": value}, solved, wished=value, table=unit(1))

    def test_arguments_stay(self):
        rows = [[0, 2, 4], [1, 2, 3], [0, 1, 2]]
        table, wished = Table(3, 3, rows), Table(3, 1, [[4], [1], [2]])
        for action in (reduced, rank, heads, kernel, undone):
            action(table)
        solved(table, wished)
        self.same([table.rows(), wished.rows()], [rows, [[4], [1], [2]]])


if __name__ == "__main__":
    unittest.main()
