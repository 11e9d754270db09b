"""[3b1] to [3b5]: joinings, what they join, what is laid out, split or not, witnesses."""

import random
import unittest

from sureparts.errors import InvalidFilling, InvalidJoining, InvalidTables, TooMany, UnlikeWebs
from sureparts.fillings import Filling, both, drawn_filling, exchanged, nought_filling, simple_filling
from sureparts.joins import is_join_paper, is_joining, join_paper, joined, laid_out
from sureparts.maps import both_table, lack, maps_many
from sureparts.parts import is_part, part_filling, rest_filling
from sureparts.rows import form
from sureparts.tables import Table, above, beside, nought, plus, scaled, times, unit
from sureparts.webs import Web
from tests.helpers import (PRIME, STRANGE, Case, added, drawn, drawn_row, drawn_table, otherwise, pairs, undone_table)

PAIR = Web(2, [(0, 1), (0, 1)])
FAR, NEAR = simple_filling(PAIR, 1), simple_filling(PAIR, 0)
ONE, FIVE = Table(1, 1, [[1]]), Table(1, 1, [[5]])
NO_FILLINGS = STRANGE + [0, [], (), [1, 1], PAIR, ONE, (PAIR, [0, 0], [unit(0), unit(0)])]
NO_JOININGS = STRANGE + [0, 1, [], (), [ONE], [ONE, ONE, ONE], ONE, [[[1]], [[1]]], [ONE, None], [None, ONE],
                         [ONE, unit(2)], [nought(1, 0), ONE], [ONE, nought(0, 1)], [ONE, 1], [[ONE, ONE]],
                         [(ONE,), (ONE,)], "ab", {0: ONE, 1: ONE}, NEAR]


def numbers(tables):
    return [rest for table in tables for row in table.rows() for rest in row]


def product(tables, others):
    return sum(a * b for a, b in zip(numbers(tables), numbers(others))) % PRIME


def drawn_joining(source, filling, other):
    """Drawn tables for the joining, and for what lays one out."""
    row, late = filling.row(), other.row()
    joining = [drawn_table(source, row[head], late[tail]) for tail, head in filling.web().arrows()]
    return joining, [drawn_table(source, size, more) for size, more in zip(row, late)]


def joins(seed, often=3, most=2):
    for web, source, filling, other in pairs(seed, most=most, often=often):
        yield (web, source, filling, other) + drawn_joining(source, filling, other)


def put_together(joining, other):
    return [plus(a, b) for a, b in zip(joining, other)]


class Joinings(Case):
    def test_is_joining(self):
        for _, _, filling, other, joining, _ in joins(1):
            self.assertIs(is_joining(filling, other, joining), True)
            self.assertIs(is_joining(value=tuple(joining), other=other, filling=filling), True)
        for value in NO_JOININGS:
            self.assertIs(is_joining(FAR, NEAR, value), False)
        self.assertIs(is_joining(NEAR, FAR, [nought(0, 0)] * 2), True)
        self.assertIs(is_joining(nought_filling(Web(2, []), [1, 1]), nought_filling(Web(2, []), [6, 6]), []), True)

    def test_joined(self):
        for web, _, filling, other, joining, _ in joins(2):
            told = joined(filling, other, joining)
            self.assertTrue(joined(joining=tuple(joining), other=other, filling=filling) == told)
            self.assertTrue(told.web() == web)
            self.same(told.row(), added(filling.row(), other.row()))
            for a, h, across, table in zip(filling.tables(), other.tables(), joining, told.tables()):
                self.assertTrue(table == above(beside(a, across), beside(nought(h.tall, a.wide), h)))
            part = [beside(unit(size), nought(size, more)) for size, more in zip(filling.row(), other.row())]
            self.assertIs(is_part(told, part), True)
            self.assertTrue(part_filling(told, part) == filling and rest_filling(told, part) == other)

    def test_noughts_join_to_both(self):
        for web, _, filling, other, joining, _ in joins(3):
            zero = [scaled(table, 0) for table in joining]
            self.assertTrue(joined(filling, other, zero) == both(filling, other))
            self.assertEqual(join_paper(filling, other, zero)[0], "split")
            empty = nought_filling(web, [0] * web.places)
            none = [nought(filling.row()[head], 0) for _, head in web.arrows()]
            self.assertTrue(joined(filling, empty, none) == filling)

    def test_sizes_6_and_7_sums_24_and_25(self):
        five = Web(5, [])

        def put(row, other):
            return joined(nought_filling(five, row), nought_filling(five, other), [])

        self.same(put([6, 6, 6, 1, 0], [0, 0, 0, 5, 0]).row(), [6, 6, 6, 6, 0])
        self.told(TooMany, {"what": "sum", "limit": 24}, put, [6, 6, 6, 1, 0], [0, 0, 0, 5, 1])
        self.told(TooMany, {"what": "row", "limit": 6}, put, [6, 6, 6, 1, 0], [0, 0, 0, 6, 0])
        self.told(TooMany, {"what": "row", "limit": 6}, put, [6, 6, 6, 1, 0], [0, 0, 0, 6, 6])
        high = drawn_filling(PAIR, [4, 4], 1)
        self.told(TooMany, {"what": "row", "limit": 6}, joined, high, high, [nought(4, 4)] * 2)
        self.told(InvalidJoining, {"value": []}, joined, high, high, [])
        self.assertEqual(join_paper(high, high, [nought(4, 4)] * 2)[0], "split")
        self.assertIs(is_join_paper(high, high, [nought(4, 4)] * 2, ("split", [nought(4, 4)] * 2)), True)

    def test_arguments_stay_and_new(self):
        joining, tables = [ONE, FIVE], [nought(0, 1), nought(1, 0)]
        first = laid_out(FAR, NEAR, tables)
        self.assertIs(type(first), list)
        first.pop()
        self.assertEqual(len(laid_out(FAR, NEAR, tables)), 2)
        paper = join_paper(FAR, NEAR, joining)
        paper[1].pop()
        self.assertEqual(len(join_paper(FAR, NEAR, joining)[1]), 2)
        joined(FAR, NEAR, joining)
        is_join_paper(FAR, NEAR, joining, ("split", tables))
        self.assertTrue(joining == [ONE, FIVE] and tables == [nought(0, 1), nought(1, 0)])


class LaidOut(Case):
    def test_by_definition(self):
        for web, _, filling, other, _, tables in joins(4, most=3):
            told = laid_out(filling, other, tables)
            self.assertTrue(laid_out(tables=tuple(tables), other=other, filling=filling) == told)
            self.assertIs(is_joining(filling, other, told), True)
            for at, (tail, head) in enumerate(web.arrows()):
                wanted = plus(times(tables[head], other.tables()[at]),
                              scaled(times(filling.tables()[at], tables[tail]), PRIME - 1))
                self.assertTrue(told[at] == wanted)
            column = Table(len(numbers(tables)), 1, [[rest] for rest in numbers(tables)])
            self.assertEqual([rest for [rest] in times(both_table(other, filling), column).rows()], numbers(told))

    def test_laid_out_added_is_an_exchange(self):
        for _, _, filling, other, joining, tables in joins(5):
            more = put_together(joining, laid_out(filling, other, tables))
            across = [above(beside(unit(table.tall), table), beside(nought(table.wide, table.tall), unit(table.wide)))
                      for table in tables]
            self.assertTrue(exchanged(joined(filling, other, joining), across) == joined(filling, other, more))

    def test_errors(self):
        far = nought_filling(Web(2, [(0, 1)]), [1, 1])
        for value in NO_FILLINGS:
            for action in (is_joining, joined, laid_out, join_paper):
                self.told(InvalidFilling, {"value": value}, action, value, None, None)
                self.told(InvalidFilling, {"value": value}, action, FAR, value, None)
            self.told(InvalidFilling, {"value": value}, is_join_paper, value, None, None, None)
            self.told(InvalidFilling, {"value": value}, is_join_paper, FAR, value, None, None)
            self.told(InvalidFilling, {"value": value}, joined, joining=None, other=None, filling=value)
        for action in (is_joining, joined, laid_out, join_paper):
            self.told(UnlikeWebs, {}, action, FAR, far, None)
        self.told(UnlikeWebs, {}, is_join_paper, FAR, far, None, None)
        for value in NO_JOININGS:
            self.told(InvalidJoining, {"value": value}, joined, FAR, NEAR, value)
            self.told(InvalidJoining, {"value": value}, join_paper, FAR, NEAR, value)
            self.told(InvalidJoining, {"value": value}, join_paper, joining=value, other=NEAR, filling=FAR)
            self.told(InvalidJoining, {"value": value}, is_join_paper, FAR, NEAR, value, None)
        for value in NO_JOININGS:
            self.told(InvalidTables, {"value": value}, laid_out, FAR, NEAR, value)
        wide = nought_filling(PAIR, [2, 1])
        for value in NO_JOININGS + [[unit(2), ONE], [nought(2, 1), ONE]]:
            self.told(InvalidTables, {"value": value}, laid_out, simple_filling(PAIR, 1), wide, value)
        self.assertEqual(len(laid_out(simple_filling(PAIR, 1), wide, [nought(0, 2), ONE])), 2)


class Papers(Case):
    def test_split_exactly_if_laid_out(self):
        words = []
        for _, source, filling, other, joining, tables in joins(6, often=20, most=3):
            for told in (joining, laid_out(filling, other, tables)):
                paper = join_paper(filling, other, told)
                words.append(paper[0])
                self.assertIs(type(paper), tuple)
                self.assertIs(type(paper[1]), list)
                self.assertIs(is_join_paper(filling, other, told, paper), True)
                named = join_paper(joining=tuple(told), other=other, filling=filling)
                self.assertEqual(named[0], paper[0])
                if paper[0] == "split":
                    self.assertTrue(laid_out(filling, other, paper[1]) == told)
                else:
                    self.assertEqual(paper[0], "witness")
                    self.assertEqual(len(paper[1]), len(told))
                    self.assertNotEqual(product(paper[1], told), 0)
                    for _ in range(3):
                        _, drawn_tables = drawn_joining(source, filling, other)
                        self.assertEqual(product(paper[1], laid_out(filling, other, drawn_tables)), 0)
            self.assertEqual(join_paper(filling, other, laid_out(filling, other, tables))[0], "split")
        self.assertGreater(words.count("witness"), 20)
        self.assertGreater(words.count("split"), 20)

    def test_maps_tell_whether_it_splits(self):
        words = set()
        for _, _, filling, other, joining, _ in joins(7, often=6):
            told = joined(filling, other, joining)
            word = join_paper(filling, other, joining)[0]
            words.add(word)
            many = maps_many(other, filling) + maps_many(other, other)
            if word == "split":
                self.assertEqual(maps_many(other, told), many)
            else:
                self.assertLess(maps_many(other, told), many)
        self.assertEqual(words, {"split", "witness"})

    def test_so_many_unlike_ones_as_is_lacking(self):
        for _, source, filling, other, joining, tables in joins(8, often=5):
            leading = both_table(other, filling)
            if lack(other, filling) == 0:
                self.assertEqual(join_paper(filling, other, joining)[0], "split")
            elif leading.tall:
                self.assertIn("witness", [join_paper(filling, other, drawn_joining(source, filling, other)[0])[0]
                                          for _ in range(8)])
            word = join_paper(filling, other, joining)[0]
            for rest in (2, PRIME - 1):
                more = [scaled(table, rest) for table in joining]
                self.assertEqual(join_paper(filling, other, more)[0], word)
            more = put_together(joining, laid_out(filling, other, tables))
            self.assertEqual(join_paper(filling, other, more)[0], word)

    def test_added_up(self):
        for web, source, filling, other, joining, _ in joins(9, often=5):
            told, third = joined(filling, other, joining), drawn(source, web, drawn_row(source, web))
            splits = join_paper(filling, other, joining)[0] == "split"
            for count in (maps_many, lack):
                for turn in (False, True):
                    of = [count(third, one) if turn else count(one, third) for one in (told, filling, other)]
                    self.assertLessEqual(of[0], of[1] + of[2])
                    if splits:
                        self.assertEqual(of[0], of[1] + of[2])
            self.assertEqual(form(web, told.row(), third.row()),
                             form(web, filling.row(), third.row()) + form(web, other.row(), third.row()))
            self.assertGreaterEqual(lack(told, third), lack(filling, third))
            self.assertGreaterEqual(lack(third, told), lack(third, other))
            self.assertGreaterEqual(maps_many(told, third), maps_many(other, third))
            self.assertGreaterEqual(maps_many(third, told), maps_many(third, filling))

    def test_webs_without_arrows_split(self):
        web = Web(3, [])
        filling, other = nought_filling(web, [1, 0, 2]), nought_filling(web, [2, 1, 0])
        paper = join_paper(filling, other, [])
        self.assertEqual(paper[0], "split")
        self.assertIs(is_join_paper(filling, other, [], paper), True)
        self.assertIs(is_join_paper(filling, other, (), ("witness", [])), False)
        self.assertIs(is_join_paper(filling, other, (), ("split", [nought(1, 2), nought(0, 1), nought(2, 0)])), True)

    def test_200_rows_and_more(self):
        web = Web(2, [(0, 1)] * 8)
        for row, late, many in (([0, 5], [5, 0], 8), ([1, 5], [5, 1], 8)):
            filling, other = drawn_filling(web, row, 1), drawn_filling(web, late, 2)
            joining = [Table(5, 5, [[1] * 5] * 5)] * many
            paper = join_paper(filling, other, joining)
            self.assertIs(is_join_paper(filling, other, joining, paper), True)
        web = Web(4, [(0, 1)] * 8 + [(2, 3)])
        filling, other = drawn_filling(web, [0, 5, 0, 1], 1), drawn_filling(web, [5, 0, 1, 0], 2)
        joining = [nought(5, 5)] * 8 + [ONE]
        self.told(TooMany, {"what": "size", "limit": 200}, join_paper, filling, other, joining)
        witness = ("witness", [nought(5, 5)] * 8 + [FIVE])
        self.assertIs(is_join_paper(filling, other, joining, witness), True)
        self.assertIs(is_join_paper(filling, other, [nought(5, 5)] * 8 + [nought(1, 1)], witness), False)
        split = ("split", [nought(0, 5), nought(5, 0), nought(0, 1), nought(1, 0)])
        self.assertIs(is_join_paper(filling, other, joining, split), False)
        self.assertIs(is_join_paper(filling, other, [nought(5, 5)] * 8 + [nought(1, 1)], split), True)
        self.told(InvalidJoining, {"value": joining[:8]}, join_paper, filling, other, joining[:8])
        # From filling to other the table of both would be small: it is the one of other and filling that counts.
        self.assertEqual(both_table(filling, other).tall, 0)


class Judged(Case):
    def test_put_otherwise(self):
        for _, source, filling, other, joining, tables in joins(10, often=4):
            for told in (joining, laid_out(filling, other, tables)):
                paper = join_paper(filling, other, told)
                self.assertIs(is_join_paper(value=paper, joining=told, other=other, filling=filling), True)
                self.assertIs(is_join_paper(filling, other, told, (paper[0], tuple(paper[1]))), True)
                for value in otherwise(paper):
                    if isinstance(value, tuple) and value[1:] in (([],), ((),)) and not paper[1]:
                        continue
                    self.assertIs(is_join_paper(filling, other, told, value), False)

    def test_each_number_counts(self):
        one = Filling(PAIR, [1, 1], [ONE, FIVE])
        told = laid_out(one, one, [Table(1, 1, [[2]]), Table(1, 1, [[9]])])
        for low in range(5):
            for high in range(6, 12):
                right = (high - low) % PRIME == 7
                paper = ("split", [Table(1, 1, [[low]]), Table(1, 1, [[high]])])
                self.assertIs(is_join_paper(one, one, told, paper), right)
        self.assertIs(is_join_paper(one, one, told, ("witness", [FIVE, Table(1, 1, [[PRIME - 1]])])), False)
        moved = [told[0], plus(told[1], ONE)]
        self.assertIs(is_join_paper(one, one, moved, ("witness", [FIVE, Table(1, 1, [[PRIME - 1]])])), True)
        self.assertIs(is_join_paper(one, one, moved, ("witness", [FIVE, ONE])), False)
        self.assertIs(is_join_paper(one, one, moved, ("witness", [nought(1, 1)] * 2)), False)
        self.assertIs(is_join_paper(one, one, moved, ("split", [nought(1, 1)] * 2)), False)

    def test_witness_for_every_table(self):
        source = random.Random(11)
        found = []
        for _, _, filling, other, joining, _ in joins(12, often=6):
            value, _ = drawn_joining(source, filling, other)
            leading = both_table(other, filling)
            blind = times(Table(1, leading.tall, [numbers(value)]), leading) == nought(1, leading.wide)
            right = blind and product(value, joining) != 0
            found.append(right)
            self.assertIs(is_join_paper(filling, other, joining, ("witness", value)), right)
        self.assertIn(True, found)
        self.assertIn(False, found)

    def test_exchanged_joinings(self):
        for _, source, filling, other, joining, _ in joins(13):
            across = [undone_table(source, size) for size in filling.row()]
            more = [times(across[head], table) for (_, head), table in zip(filling.web().arrows(), joining)]
            self.assertEqual(join_paper(exchanged(filling, across), other, more)[0],
                             join_paper(filling, other, joining)[0])


if __name__ == "__main__":
    unittest.main()
