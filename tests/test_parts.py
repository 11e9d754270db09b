"""[3a1] to [3a7]: rooms, parts, the part's filling, the rest, least parts, sums and meets, what maps make and lose."""

import random
import unittest

from sureparts.errors import InvalidFilling, InvalidMap, InvalidPart, InvalidTables, UnlikeWebs
from sureparts.fillings import Filling, drawn_filling, exchanged, nought_filling
from sureparts.maps import all_maps, is_map, lack, unit_map
from sureparts.parts import (is_part, least_part, lost_part, made_part, part_filling, part_row, parts_meet, parts_sum,
                             rest_filling)
from sureparts.reduced import heads, kernel, rank, reduced, undone
from sureparts.rows import form
from sureparts.tables import Table, above, nought, plus, scaled, times, turned, unit
from sureparts.webs import Web
from tests.helpers import PRIME, STRANGE, WEBS, Case, added, drawn, drawn_row, drawn_table, pairs, undone_table

PAIR = Web(2, [(0, 1), (0, 1)])
SQUARE = Filling(PAIR, [2, 2], [unit(2), Table(2, 2, [[2, 5], [0, 3]])])
LINE = Table(1, 2, [[1, 0]])
PART, WHOLE, NONE = [LINE, LINE], [unit(2), unit(2)], [nought(0, 2), nought(0, 2)]
NO_FILLINGS = STRANGE + [0, [], (), [1, 1], PAIR, LINE, PART, (PAIR, [0, 0], [unit(0), unit(0)])]
NO_PARTS = STRANGE + [0, 1, [], (), [LINE], PART + [LINE], LINE, [[[1, 0]], [[1, 0]]], [LINE, None], [None, LINE],
                      [LINE, [[1, 0]]], [PART, PART], [Table(1, 2, [[2, 0]]), LINE], [Table(1, 2, [[2, 0]]), unit(2)],
                      [LINE, Table(2, 2, [[1, 0], [0, 0]])], [LINE, Table(2, 2, [[0, 1], [1, 0]])],
                      [nought(1, 2), LINE], [nought(0, 2), nought(1, 2)], [LINE, nought(0, 2)],
                      [Table(1, 2, [[0, 1]]), Table(1, 2, [[0, 1]])], [Table(1, 2, [[1, 1]]), LINE],
                      [Table(1, 3, [[1, 0, 0]]), LINE], [unit(1), unit(1)], [nought(0, 1), nought(0, 2)],
                      {0: LINE, 1: LINE}, "ab", SQUARE]


def rooms_rows(part):
    return [room.rows() for room in part]


def drawn_part(source, filling):
    """The least part of a few drawn rows."""
    return least_part(filling, [drawn_table(source, source.randint(0, 1), size) for size in filling.row()])


def parts_drawn(seed, often=3, most=3):
    for web, source, filling, _ in pairs(seed, most=most, often=often):
        yield web, source, filling, drawn_part(source, filling)


def led(filling, room, at):
    """What the table of the arrow at this position leads the room's rows to, as rows."""
    return turned(times(filling.tables()[at], turned(room)))


def counting(room):
    """The table that leads each list to the rest's list: changed by the room to noughts at heads, these left out."""
    free = [column for column in range(room.wide) if column not in heads(room)]
    rows = [[0] * room.wide for _ in free]
    for at, column in enumerate(free):
        rows[at][column] = 1
        for row, head in zip(room.rows(), heads(room)):
            rows[at][head] = -row[column] % PRIME
    return Table(len(free), room.wide, rows)


class Parts(Case):
    def test_none_and_whole(self):
        for web, _, filling, _ in pairs(1):
            none, whole = [nought(0, size) for size in filling.row()], unit_map(filling)
            for part in (none, whole):
                self.assertIs(is_part(filling, part), True)
                self.assertIs(is_part(value=tuple(part), filling=filling), True)
            self.same(part_row(filling, none), [0] * web.places)
            self.same(part_row(filling, whole), filling.row())
            self.assertTrue(part_filling(filling, whole) == filling)
            self.assertTrue(rest_filling(filling, none) == filling)
            empty = nought_filling(web, [0] * web.places)
            self.assertTrue(part_filling(filling, none) == empty)
            self.assertTrue(rest_filling(filling, whole) == empty)

    def test_is_part_of_any_value(self):
        for value in (PART, tuple(PART), WHOLE, NONE, [LINE, unit(2)], [nought(0, 2), Table(1, 2, [[1, 7]])]):
            self.assertIs(is_part(SQUARE, value), True)
        for value in NO_PARTS:
            self.assertIs(is_part(SQUARE, value), False)

    def test_is_part_exactly_if_rows_are_led_into_rooms(self):
        source = random.Random(2)
        seen = []
        for web, _, filling, _ in pairs(3, often=6):
            rooms = [reduced(drawn_table(source, source.randint(0, 2), size)) for size in filling.row()]
            into = True
            for at, (tail, head) in enumerate(web.arrows()):
                into = into and rank(above(rooms[head], led(filling, rooms[tail], at))) == rooms[head].tall
            self.assertIs(is_part(filling, rooms), into)
            seen.append(into)
        self.assertIn(True, seen)
        self.assertIn(False, seen)

    def test_rooms_are_their_own_reduced_tables(self):
        web = Web(1, [])
        filling = nought_filling(web, [3])
        for rows, wanted in (([[1, 0, 5], [0, 1, 2]], True), ([[0, 0, 1]], True), ([[1, 5, 0], [0, 1, 0]], False),
                             ([[0, 1, 0], [1, 0, 0]], False), ([[0, 2, 0]], False), ([[0, 0, 0]], False), ([], True)):
            self.assertIs(is_part(filling, [Table(len(rows), 3, rows)]), wanted)
        self.assertIs(is_part(filling, [nought(0, 2)]), False)
        self.assertIs(is_part(filling, [unit(4)]), False)

    def test_webs_without_arrows(self):
        filling = nought_filling(Web(3, []), [2, 0, 1])
        rooms = [Table(1, 2, [[1, 9]]), nought(0, 0), unit(1)]
        self.assertIs(is_part(filling, rooms), True)
        self.same(part_row(filling, rooms), [1, 0, 1])
        self.same(rest_filling(filling, rooms).row(), [1, 0, 0])

    def test_not_changed_and_new(self):
        part = list(PART)
        for action in (is_part, part_row, part_filling, rest_filling, least_part):
            action(SQUARE, part)
        parts_sum(SQUARE, part, part)
        parts_meet(SQUARE, part, part)
        self.assertTrue(part == PART)
        self.new_list(lambda: part_row(SQUARE, PART))
        across = [unit(2), unit(2)]
        for told in (lambda: least_part(SQUARE, part), lambda: parts_sum(SQUARE, part, part),
                     lambda: parts_meet(SQUARE, part, part), lambda: made_part(SQUARE, SQUARE, across),
                     lambda: lost_part(SQUARE, SQUARE, across)):
            first = told()
            self.assertIs(type(first), list)
            first.pop()
            self.assertEqual(len(told()), 2)
        self.assertTrue(across == [unit(2), unit(2)])


class Fillings(Case):
    def test_part_and_rest(self):
        rows = set()
        for web, _, filling, part in parts_drawn(4):
            self.assertIs(is_part(filling, part), True)
            row = part_row(filling, part)
            self.same(row, [room.tall for room in part])
            self.same(part_row(part=tuple(part), filling=filling), row)
            inner, rest = part_filling(filling, part), rest_filling(filling, part)
            self.assertTrue(part_filling(part=tuple(part), filling=filling) == inner)
            self.assertTrue(rest_filling(part=tuple(part), filling=filling) == rest)
            self.assertTrue(inner.web() == web and rest.web() == web)
            self.same(inner.row(), row)
            self.same(added(row, rest.row()), filling.row())
            rows.add((sum(row) > 0, sum(rest.row()) > 0))
            # As the rooms' rows stand on their own, and the rest's lists are all made, each table is just one.
            self.assertIs(is_map(inner, filling, [turned(room) for room in part]), True)
            self.assertIs(is_map(filling, rest, [counting(room) for room in part]), True)
        self.assertIn((True, True), rows)

    def test_heads_in_the_middle(self):
        filling = Filling(Web(2, [(0, 1)]), [1, 3], [Table(3, 1, [[4], [5], [6]])])
        part = [nought(0, 1), Table(1, 3, [[0, 1, 7]])]
        self.same(rest_filling(filling, part).tables()[0].rows(), [[4], [(6 - 35) % PRIME]])
        part = [unit(1), Table(2, 3, [[1, 0, 2], [0, 1, (6 - 8) * pow(5, -1, PRIME) % PRIME]])]
        self.assertIs(is_part(filling, part), True)
        self.same(part_filling(filling, part).tables()[0].rows(), [[4], [5]])
        self.same(rest_filling(filling, part).row(), [0, 1])
        self.same(rest_filling(filling, part).tables()[0].rows(), [[]])

    def test_sizes_0(self):
        chain = Web(3, [(0, 1), (1, 2)])
        filling = drawn_filling(chain, [2, 0, 2], 5)
        part = [Table(1, 2, [[1, 3]]), nought(0, 0), nought(0, 2)]
        self.same(part_row(filling, part), [1, 0, 0])
        self.assertTrue(part_filling(filling, part) == nought_filling(chain, [1, 0, 0]))
        self.assertTrue(rest_filling(filling, part) == nought_filling(chain, [1, 0, 2]))

    def test_forms_and_lacks(self):
        for web, source, filling, part in parts_drawn(5):
            inner, rest = part_filling(filling, part), rest_filling(filling, part)
            third = drawn(source, web, drawn_row(source, web))
            self.assertEqual(form(web, inner.row(), third.row()) + form(web, rest.row(), third.row()),
                             form(web, filling.row(), third.row()))
            self.assertLessEqual(lack(filling, third), lack(inner, third) + lack(rest, third))
            self.assertLessEqual(lack(third, filling), lack(third, inner) + lack(third, rest))
            self.assertGreaterEqual(lack(filling, third), lack(inner, third))
            self.assertGreaterEqual(lack(third, filling), lack(third, rest))

    def test_errors(self):
        for action in (part_row, part_filling, rest_filling):
            for value in NO_FILLINGS:
                self.told(InvalidFilling, {"value": value}, action, value, None)
                self.told(InvalidFilling, {"value": value}, action, part=None, filling=value)
            for value in NO_PARTS:
                self.told(InvalidPart, {"value": value}, action, SQUARE, value)
                self.told(InvalidPart, {"value": value}, action, part=value, filling=SQUARE)
        for value in NO_FILLINGS:
            self.told(InvalidFilling, {"value": value}, is_part, value, None)


class LeastPart(Case):
    def test_by_ways(self):
        for web, source, filling, _ in pairs(6, most=3):
            tables = [drawn_table(source, source.randint(0, 3), size) for size in filling.row()]
            wanted = []
            for place, size in enumerate(filling.row()):
                rows = []
                for other in range(web.places):
                    for way in web.ways(other, place):
                        table = tables[other]
                        rows += (turned(times(filling.along(way), turned(table))) if way else table).rows()
                wanted.append(reduced(Table(len(rows), size, rows)).rows())
            self.same(rooms_rows(least_part(filling, tables)), wanted)
            self.same(rooms_rows(least_part(tables=tuple(tables), filling=filling)), wanted)
            self.assertIs(is_part(filling, least_part(filling, tables)), True)

    def test_least(self):
        for _, _, filling, part in parts_drawn(7):
            self.assertTrue(least_part(filling, part) == part)
            self.assertTrue(least_part(filling, [scaled(room, 5) for room in part]) == part)

    def test_as_tall_as_they_like(self):
        tall = Table(200, 2, [[rest, 3 * rest] for rest in range(200)])
        self.same(rooms_rows(least_part(SQUARE, [tall, tall])), [[[1, 3]], [[1, 0], [0, 1]]])
        self.same(rooms_rows(least_part(SQUARE, [nought(200, 2), tall])), [[], [[1, 3]]])
        self.same(rooms_rows(least_part(SQUARE, [nought(0, 2), nought(7, 2)])), [[], []])

    def test_along_the_longest_way(self):
        places = 13
        for order in (list(range(places)), list(range(places))[::-1]):
            arrows = [(order[at], order[at + 1]) for at in range(places - 1)]
            for told in (arrows, arrows[::-1]):
                web = Web(places, told)
                filling = Filling(web, [1] * places, [unit(1)] * (places - 1))
                tables = [nought(0, 1)] * places
                tables[order[0]] = Table(1, 1, [[5]])
                self.assertTrue(least_part(filling, tables) == [unit(1)] * places)

    def test_errors(self):
        for value in NO_FILLINGS:
            self.told(InvalidFilling, {"value": value}, least_part, value, None)
        wrong = STRANGE + [0, [], (), [LINE], [LINE] * 3, [LINE, None], [LINE, [[1, 0]]], [LINE, unit(1)],
                           [nought(0, 3), LINE], [nought(2, 0), LINE], LINE, "ab", {0: LINE, 1: LINE}]
        for value in wrong:
            self.told(InvalidTables, {"value": value}, least_part, SQUARE, value)
            self.told(InvalidTables, {"value": value}, least_part, tables=value, filling=SQUARE)


class SumsMeets(Case):
    def test_rows_of_both(self):
        for web, source, filling, part in parts_drawn(8, often=6):
            other = drawn_part(source, filling)
            total, common = parts_sum(filling, part, other), parts_meet(filling, part, other)
            self.assertIs(is_part(filling, total), True)
            self.assertIs(is_part(filling, common), True)
            self.same(added(part_row(filling, total), part_row(filling, common)),
                      added(part_row(filling, part), part_row(filling, other)))
            self.assertTrue(total == least_part(filling, [above(a, b) for a, b in zip(part, other)]))
            for one, late, inner in zip(part, other, common):
                self.assertEqual(rank(above(one, inner)), one.tall)
                self.assertEqual(rank(above(late, inner)), late.tall)
            self.assertTrue(parts_sum(other=tuple(other), part=tuple(part), filling=filling) == total)
            self.assertTrue(parts_meet(other=tuple(other), part=tuple(part), filling=filling) == common)
            self.assertTrue(parts_sum(filling, other, part) == total and parts_meet(filling, other, part) == common)

    def test_with_none_and_whole(self):
        for _, _, filling, part in parts_drawn(9):
            none, whole = [nought(0, size) for size in filling.row()], unit_map(filling)
            self.assertTrue(parts_sum(filling, part, none) == part and parts_meet(filling, part, none) == none)
            self.assertTrue(parts_sum(filling, part, whole) == whole and parts_meet(filling, part, whole) == part)
            self.assertTrue(parts_sum(filling, part, part) == part and parts_meet(filling, part, part) == part)

    def test_lines_and_planes(self):
        filling = nought_filling(Web(1, []), [3])
        plane, other = [Table(2, 3, [[1, 0, 1], [0, 1, 1]])], [Table(2, 3, [[1, 0, 2], [0, 1, 1]])]
        self.same(rooms_rows(parts_meet(filling, plane, other)), [[[0, 1, 1]]])
        self.same(rooms_rows(parts_sum(filling, plane, other)), [[[1, 0, 0], [0, 1, 0], [0, 0, 1]]])
        line, late = [Table(1, 3, [[1, 2, 3]])], [Table(1, 3, [[1, 2, 4]])]
        self.same(rooms_rows(parts_meet(filling, line, late)), [[]])
        self.same(rooms_rows(parts_sum(filling, line, late)), [[[1, 2, 0], [0, 0, 1]]])

    def test_errors(self):
        for action in (parts_sum, parts_meet):
            for value in NO_FILLINGS:
                self.told(InvalidFilling, {"value": value}, action, value, None, None)
            for value in NO_PARTS:
                self.told(InvalidPart, {"value": value}, action, SQUARE, value, "later")
                self.told(InvalidPart, {"value": value}, action, SQUARE, PART, value)
                self.told(InvalidPart, {"value": value}, action, other=value, part=PART, filling=SQUARE)


class MadeLost(Case):
    def test_made_and_lost(self):
        seen = set()
        for _, source, filling, other in pairs(10, most=3, often=8):
            across = [nought(high, low) for low, high in zip(filling.row(), other.row())]
            for more in all_maps(filling, other):
                rest = source.choice([0, 1, 77])
                across = [plus(a, scaled(b, rest)) for a, b in zip(across, more)]
            made, lost = made_part(filling, other, across), lost_part(filling, other, across)
            self.assertTrue(made_part(across=tuple(across), other=other, filling=filling) == made)
            self.assertTrue(lost_part(across=tuple(across), other=other, filling=filling) == lost)
            self.assertIs(is_part(other, made), True)
            self.assertIs(is_part(filling, lost), True)
            self.assertTrue(made == [reduced(turned(table)) for table in across])
            self.assertTrue(lost == [kernel(table) for table in across])
            self.same(added(part_row(other, made), part_row(filling, lost)), filling.row())
            seen.add((sum(part_row(other, made)) > 0, sum(part_row(filling, lost)) > 0))
            # The map tells how the rest of what is lost is exchanged for what is made.
            back = [self.rest_to_made(table, room, late) for table, room, late in zip(across, lost, made)]
            self.assertTrue(exchanged(rest_filling(filling, lost), back) == part_filling(other, made))
        self.assertIn((True, True), seen)

    def rest_to_made(self, table, lost, made):
        free = [column for column in range(lost.wide) if column not in heads(lost)]
        columns = turned(table).rows()
        rows = [[columns[column][head] for column in free] for head in heads(made)]
        told = Table(made.tall, len(free), rows)
        self.assertIsNotNone(undone(told))
        return told

    def test_unit_map_and_noughts(self):
        none = [nought(0, 2), nought(0, 2)]
        self.assertTrue(made_part(SQUARE, SQUARE, WHOLE) == WHOLE and lost_part(SQUARE, SQUARE, WHOLE) == none)
        zero = [nought(2, 2), nought(2, 2)]
        self.assertTrue(made_part(SQUARE, SQUARE, zero) == none and lost_part(SQUARE, SQUARE, zero) == WHOLE)

    def test_errors(self):
        far = nought_filling(Web(2, [(0, 1)]), [2, 2])
        for action in (made_part, lost_part):
            for value in NO_FILLINGS:
                self.told(InvalidFilling, {"value": value}, action, value, None, None)
                self.told(InvalidFilling, {"value": value}, action, SQUARE, value, None)
                self.told(InvalidFilling, {"value": value}, action, across=None, other=value, filling=SQUARE)
            self.told(UnlikeWebs, {}, action, SQUARE, far, None)
            for value in STRANGE + [0, [], [unit(2)], [unit(2), nought(2, 2)], [unit(2)] * 3, PART, unit(2)]:
                self.told(InvalidMap, {"value": value}, action, SQUARE, SQUARE, value)
                self.told(InvalidMap, {"value": value}, action, across=value, other=SQUARE, filling=SQUARE)


class Facts(Case):
    def test_exchanged_parts(self):
        for _, source, filling, part in parts_drawn(11):
            across = [undone_table(source, size) for size in filling.row()]
            moved = least_part(exchanged(filling, across),
                               [turned(times(table, turned(room))) for table, room in zip(across, part)])
            self.same(part_row(exchanged(filling, across), moved), part_row(filling, part))

    def test_a_part_may_want_a_root(self):
        turns = Filling(PAIR, [2, 2], [unit(2), Table(2, 2, [[0, PRIME - 1], [1, 0]])])
        lines = [Table(1, 2, [[0, 1]])] + [Table(1, 2, [[1, rest]]) for rest in range(0, PRIME, 29)]
        for line in lines:
            self.same(part_row(turns, least_part(turns, [line, nought(0, 2)])), [1, 2])
        for rest in range(1, PRIME):
            self.assertNotEqual(rest * rest % PRIME, PRIME - 1)
        rooted = Filling(PAIR, [2, 2], [unit(2), Table(2, 2, [[0, 4], [1, 0]])])
        line = Table(1, 2, [[1, pow(2, -1, PRIME)]])
        self.same(part_row(rooted, least_part(rooted, [line, nought(0, 2)])), [1, 1])


if __name__ == "__main__":
    unittest.main()
