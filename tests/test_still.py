"""[7b1] to [7b5]: own lacks, still rows and fillings, their papers, real rows, exchanges."""

import random
import unittest

from sureparts.errors import (InvalidFilling, InvalidRow, InvalidWeb, NotStill, TooMany, UnlikeRows, UnlikeWebs)
from sureparts.falling import falls, falls_paper, is_falls_paper
from sureparts.fillings import Filling, both, drawn_filling, exchanged, nought_filling, simple_filling
from sureparts.maps import is_map, lack, maps_many
from sureparts.reduced import rank
from sureparts.rows import form
from sureparts.still import exchange, is_exchange, is_real, is_still, is_still_paper, own_lack, still_paper
from sureparts.sure import least_lack
from sureparts.tables import Table, nought, unit
from sureparts.unsplit import is_unsplit
from sureparts.webs import Web, turned_web
from tests.helpers import (JUNK, NO_WEBS, STRANGE, WEBS, Case, below, drawn, drawn_row, no_rows, otherwise, pairs,
                           rows_at, undone_table)

PAIR, THREE, CHAIN = Web(2, [(0, 1), (0, 1)]), Web(2, [(0, 1)] * 3), Web(3, [(0, 1), (1, 2)])
YES, NO = Table(1, 1, [[1]]), Table(1, 1, [[0]])
NEAR, FAR = Filling(PAIR, [1, 1], [YES, NO]), Filling(PAIR, [1, 1], [NO, YES])
STILL = Filling(PAIR, [1, 2], [Table(2, 1, [[1], [0]]), Table(2, 1, [[0], [1]])])
OTHER = Filling(PAIR, [1, 2], [Table(2, 1, [[1], [1]]), Table(2, 1, [[0], [2]])])
ROWS, SIZE = {"what": "rows", "limit": 400}, {"what": "size", "limit": 200}
NO_FILLINGS = STRANGE + [0, [], (), [1, 1], PAIR, YES, [NEAR], (PAIR, [1, 1], [YES, NO])]


def fills(filling, web, row):
    return isinstance(filling, Filling) and filling.web() == web and filling.row() == list(row)


def right(web, row, paper):
    """Whether a tuple of the right kinds is a still paper, by the words of [7b3]."""
    if paper[0] == "still":
        return fills(paper[1], web, row) and lack(paper[1], paper[1]) == 0
    return (paper[0] == "moves" and is_falls_paper(web, row, paper[1])
            and any(form(web, brick.row(), brick.row()) < 1 for brick in paper[1]))


def moved(source, filling):
    """The filling exchanged by drawn tables."""
    return exchanged(filling, [undone_table(source, size) for size in filling.row()])


class OwnLack(Case):
    def test_by_falls(self):
        found = set()
        for web, _, row in rows_at(1, 80):
            wanted = sum(1 - form(web, part, part) for part in falls(web, row))
            found.add(min(wanted, 3))
            self.same(own_lack(web, row), wanted)
            self.same(own_lack(row=tuple(row), web=web), wanted)
            self.assertIs(is_still(web, row), wanted == 0)
            self.assertIs(is_still(row=tuple(row), web=web), wanted == 0)
        self.assertTrue({0, 1} <= found)

    def test_no_filling_lacks_less_and_some_drawn_one_just_that(self):
        for web, source, row in rows_at(2, 60):
            told = own_lack(web, row)
            lacks = [lack(filling, filling) for filling in [drawn(source, web, row) for _ in range(4)]]
            lacks += [lack(filling, filling) for filling in [drawn_filling(web, row, many) for many in range(4)]]
            self.assertEqual(min(lacks), told)
            self.assertGreaterEqual(told, least_lack(web, row, row))

    def test_for_example(self):
        self.same([own_lack(PAIR, row) for row in below([1, 2])], [0, 0, 0, 0, 1, 0])
        self.same([own_lack(PAIR, [1, 1]), least_lack(PAIR, [1, 1], [1, 1])], [1, 0])
        self.same([own_lack(PAIR, [3, 3]), own_lack(PAIR, [6, 6]), own_lack(THREE, [2, 2])], [3, 6, 5])
        self.same([own_lack(PAIR, [2, 3]), own_lack(PAIR, [5, 6]), own_lack(PAIR, [6, 4])], [0, 0, 0])
        self.same(own_lack(Web(2, [(0, 1)] * 12), [1, 1]), 11)

    def test_still_rows(self):
        for web in WEBS:
            self.assertIs(is_still(web, [0] * web.places), True)
        for row in below([2, 2, 2]):
            self.assertIs(is_still(CHAIN, row), True)
            self.assertIs(is_still(Web(3, []), row), True)
        self.assertEqual([is_still(PAIR, row) for row in ([1, 1], [2, 2], [1, 2], [4, 2], [3, 1])],
                         [False, False, True, True, True])

    def test_left_out(self):
        source = random.Random(3)
        for web, _, row in rows_at(4, 60):
            parts = falls(web, row)
            if not is_still(web, row):
                continue
            left = [0] * web.places
            for part in parts:
                if source.random() < 0.5:
                    left = [size + more for size, more in zip(left, part)]
            self.assertIs(is_still(web, left), True)

    def test_turned_about(self):
        for web, _, row in rows_at(5, 40):
            self.same(own_lack(turned_web(web), row), own_lack(web, row))

    def test_real(self):
        found = []
        for web, source, row in rows_at(6, 120):
            wanted = is_unsplit(web, row) and form(web, row, row) == 1
            found.append((is_still(web, row), wanted))
            self.assertIs(is_real(web, row), wanted)
            self.assertIs(is_real(row=tuple(row), web=web), wanted)
            if wanted:
                self.assertIs(is_still(web, row), True)
                for filling in (drawn(source, web, row), drawn_filling(web, row, 2), nought_filling(web, row)):
                    self.assertEqual(lack(filling, filling) == 0, maps_many(filling, filling) == 1)
        self.assertEqual(set(found), {(True, True), (True, False), (False, False)})
        # Unsplit, but of a form below 1; of the form 1, but several bricks.
        self.assertIs(is_real(PAIR, [1, 1]), False)
        self.assertIs(is_real(THREE, [1, 1]), False)
        self.same(form(Web(3, [(0, 1)]), [1, 1, 0], [1, 1, 0]), 1)
        two = Web(3, [(0, 1), (0, 1)])
        self.same(form(two, [1, 1, 1], [1, 1, 1]), 1)
        self.assertIs(is_real(two, [1, 1, 1]), False)
        self.assertIs(is_real(PAIR, [0, 0]), False)

    def test_errors_and_400_rows(self):
        five = Web(5, [(0, 1)])
        for action in (own_lack, is_still, is_real, still_paper):
            for value in NO_WEBS:
                self.told(InvalidWeb, {"value": value}, action, value, None)
                self.told(InvalidWeb, {"value": value}, action, row=None, web=value)
            for value in no_rows(PAIR):
                self.told(InvalidRow, {"value": value}, action, PAIR, value)
                self.told(InvalidRow, {"value": value}, action, row=value, web=PAIR)
            self.told(TooMany, ROWS, action, five, [4, 2, 2, 2, 2])
            action(Web(4, [(0, 1), (1, 2), (2, 3)]), [4, 4, 3, 3])
        for value in NO_WEBS:
            self.told(InvalidWeb, {"value": value}, is_still_paper, value, None, None)
        for value in no_rows(PAIR):
            self.told(InvalidRow, {"value": value}, is_still_paper, PAIR, value, None)
        self.assertIs(is_still_paper(five, [4, 2, 2, 2, 2], None), False)
        self.assertIs(is_still_paper(five, [0, 6, 6, 6, 6], ("still", nought_filling(five, [0, 6, 6, 6, 6]))), True)


class Papers(Case):
    def test_just_one_kind(self):
        words = []
        for web, _, row in rows_at(7, 80):
            paper = still_paper(web, row)
            words.append(paper[0])
            self.assertIs(type(paper), tuple)
            self.assertEqual(len(paper), 2)
            self.assertEqual(paper[0], "still" if is_still(web, row) else "moves")
            self.assertTrue(right(web, row, paper))
            self.assertIs(is_still_paper(web, row, paper), True)
            named = still_paper(row=tuple(row), web=web)
            self.assertIs(is_still_paper(value=named, row=tuple(row), web=web), True)
            if paper[0] == "moves":
                self.assertIs(type(paper[1]), list)
                self.assertIs(is_still_paper(web, row, ("moves", tuple(paper[1]))), True)
                self.same(own_lack(web, row), sum(1 - form(web, brick.row(), brick.row()) for brick in paper[1]))
        self.assertGreater(words.count("still"), 15)
        self.assertGreater(words.count("moves"), 5)

    def test_exactly_the_right_ones(self):
        source = random.Random(8)
        found = []
        for web, _, row in rows_at(9, 80):
            fillings = [drawn(source, web, row), drawn_filling(web, row, source.randrange(99)),
                        nought_filling(web, row), drawn(source, web, drawn_row(source, web))]
            papers = [("still", filling) for filling in fillings]
            papers += [("moves", bricks) for bricks in (falls_paper(web, row), fillings[:1],
                                                        [drawn(source, web, part) for part in falls(web, row)])]
            for paper in papers:
                wanted = right(web, row, paper)
                found.append((paper[0], wanted))
                self.assertIs(is_still_paper(web, row, paper), wanted)
                if wanted:
                    self.assertIs(is_still(web, row), paper[0] == "still")
        for kind in (("still", True), ("still", False), ("moves", True), ("moves", False)):
            self.assertGreater(found.count(kind), 10)

    def test_put_otherwise(self):
        for web, _, row in rows_at(10, 40):
            paper = still_paper(web, row)
            for value in otherwise(paper):
                self.assertIs(is_still_paper(web, row, value), False)
            for word in ("sure", "Still", "moves" if paper[0] == "still" else "still"):
                self.assertIs(is_still_paper(web, row, (word, paper[1])), False)
            if paper[0] == "moves":
                for at in range(len(paper[1])):
                    for more in ([], [paper[1][at]] * 2, [None], [[]], [nought_filling(web, row)]):
                        value = paper[1][:at] + more + paper[1][at + 1:]
                        self.assertIs(is_still_paper(web, row, ("moves", value)), False)
            else:
                self.assertIs(is_still_paper(web, row, ("moves", falls_paper(web, row))), False)

    def test_for_example(self):
        self.assertIs(is_still_paper(PAIR, [2, 2], ("moves", [FAR, NEAR])), True)
        self.assertIs(is_still_paper(PAIR, [2, 2], ("moves", [NEAR, NEAR])), False)
        self.assertIs(is_still_paper(PAIR, [2, 2], ("still", both(NEAR, FAR))), False)
        self.assertIs(is_still_paper(PAIR, [0, 0], ("still", nought_filling(PAIR, [0, 0]))), True)
        self.assertIs(is_still_paper(PAIR, [0, 0], ("moves", [])), False)
        self.assertIs(is_still_paper(PAIR, [1, 2], ("still", OTHER)), True)
        self.assertIs(is_still_paper(PAIR, [1, 2], ("moves", [OTHER])), False)
        self.assertIs(is_still_paper(Web(3, [(0, 1), (0, 1)]), [1, 1, 1], still_paper(Web(3, [(0, 1)] * 2), [1, 1, 1])),
                      True)

    def test_200_rows_and_more(self):
        eight, more = Web(4, [(0, 1)] * 8), Web(4, [(0, 1)] * 8 + [(2, 3)])
        self.assertEqual(still_paper(eight, [5, 5, 1, 1])[0], "moves")
        self.assertIs(is_still_paper(eight, [5, 5, 1, 1], still_paper(eight, [5, 5, 1, 1])), True)
        self.assertIs(is_still_paper(eight, [5, 5, 1, 1], None), False)
        self.told(TooMany, SIZE, still_paper, more, [5, 5, 1, 1])
        for value in JUNK + [("still", nought_filling(more, [5, 5, 1, 1]))]:
            self.told(TooMany, SIZE, is_still_paper, more, [5, 5, 1, 1], value)
        self.assertIs(is_still(more, [5, 5, 1, 1]), False)
        much = Web(5, [(0, 1)] * 9)
        self.told(TooMany, ROWS, still_paper, much, [5, 5, 2, 2, 2])
        self.told(TooMany, SIZE, is_still_paper, much, [5, 5, 2, 2, 2], None)

    def test_arguments_stay_and_new(self):
        row = [2, 2]
        for action in (own_lack, is_still, is_real, still_paper):
            action(PAIR, row)
        bricks = [NEAR, FAR]
        is_still_paper(PAIR, row, ("moves", bricks))
        self.same(row, [2, 2])
        self.assertTrue(bricks == [NEAR, FAR])
        still_paper(PAIR, row)[1].append(7)
        self.assertEqual(len(still_paper(PAIR, row)[1]), 2)


class Exchanges(Case):
    def test_of_still_fillings(self):
        seen = 0
        for web, source, row in rows_at(11, 80):
            paper = still_paper(web, row)
            if paper[0] == "moves":
                continue
            other = moved(source, paper[1])
            third = drawn_filling(web, row, source.randrange(999))
            for near, far in ((paper[1], other), (other, paper[1]), (other, other), (third, other)):
                if lack(near, near) > 0:
                    continue
                told = exchange(near, far)
                self.assertIs(type(told), list)
                self.assertTrue(is_map(near, far, told))
                self.assertTrue(all(rank(table) == size for table, size in zip(told, row)))
                self.assertTrue(exchanged(near, told) == far)
                self.assertIs(is_exchange(near, far, told), True)
                self.assertIs(is_exchange(near, far, exchange(other=far, filling=near)), True)
                self.assertIs(is_exchange(value=tuple(told), other=far, filling=near), True)
                seen += any(row)
        self.assertGreater(seen, 60)

    def test_of_any_fillings(self):
        source = random.Random(12)
        found = []
        for web, _, filling, _ in pairs(13, most=2, often=8):
            across = [undone_table(source, size) for size in filling.row()]
            far = exchanged(filling, across)
            self.assertIs(is_exchange(filling, far, across), True)
            for tables in ([nought(size, size) for size in filling.row()], [unit(size) for size in filling.row()],
                           [undone_table(source, size) for size in filling.row()]):
                wanted = is_map(filling, far, tables) and all(rank(table) == table.tall for table in tables)
                found.append(wanted)
                self.assertIs(is_exchange(filling, far, tables), wanted)
        self.assertIn(True, found)
        self.assertIn(False, found)

    def test_maps_that_cannot_be_undone(self):
        none = [nought(1, 1), nought(2, 2)]
        self.assertIs(is_map(STILL, OTHER, none), True)
        self.assertIs(is_exchange(STILL, OTHER, none), False)
        half = [nought(1, 1), unit(1)]
        bare = nought_filling(PAIR, [1, 1])
        self.assertIs(is_map(bare, bare, half), True)
        self.assertIs(is_exchange(bare, bare, half), False)
        self.assertIs(is_exchange(bare, bare, [YES, YES]), True)

    def test_unlike_rows(self):
        for other in (NEAR, nought_filling(PAIR, [2, 1]), nought_filling(PAIR, [0, 0])):
            self.told(UnlikeRows, {}, exchange, STILL, other)
            self.told(UnlikeRows, {}, exchange, other=STILL, filling=other)
            tables = [nought(more, size) for size, more in zip(STILL.row(), other.row())]
            self.assertIs(is_map(STILL, other, tables), True)
            for value in JUNK + [tables, exchange(STILL, OTHER)]:
                self.assertIs(is_exchange(STILL, other, value), False)

    def test_not_still(self):
        wide = nought_filling(PAIR, [1, 2])
        self.told(NotStill, {}, exchange, STILL, wide)
        self.told(NotStill, {}, exchange, wide, STILL)
        self.told(NotStill, {}, exchange, NEAR, NEAR)
        self.assertIs(is_exchange(NEAR, NEAR, [YES, YES]), True)

    def test_200_rows_and_more(self):
        eight, nine = Web(2, [(0, 1)] * 8), Web(2, [(0, 1)] * 9)
        self.told(NotStill, {}, exchange, drawn_filling(eight, [5, 5], 1), drawn_filling(eight, [5, 5], 1))
        filling = drawn_filling(nine, [5, 5], 1)
        self.told(TooMany, SIZE, exchange, filling, filling)
        self.told(UnlikeRows, {}, exchange, filling, nought_filling(nine, [5, 6]))
        self.assertIs(is_exchange(filling, filling, [unit(5), unit(5)]), True)
        self.assertIs(is_exchange(filling, filling, [unit(5), nought(5, 5)]), False)

    def test_put_otherwise(self):
        told = exchange(STILL, OTHER)
        wrong = [told[:1], told[1:], told + [unit(1)], told[::-1], [told], (told,), {0: told[0], 1: told[1]},
                 [told[0].rows(), told[1].rows()], [told[0], None], [unit(1), unit(2)], [nought(1, 1), told[1]]]
        for value in JUNK + STRANGE + wrong:
            self.assertIs(is_exchange(STILL, OTHER, value), False)
        bare = nought_filling(PAIR, [0, 0])
        self.assertTrue(exchange(bare, bare) == [nought(0, 0), nought(0, 0)])
        self.assertIs(is_exchange(bare, bare, []), False)

    def test_errors(self):
        for value in NO_FILLINGS:
            self.told(InvalidFilling, {"value": value}, exchange, value, None)
            self.told(InvalidFilling, {"value": value}, exchange, STILL, value)
            self.told(InvalidFilling, {"value": value}, exchange, other=value, filling=STILL)
            self.told(InvalidFilling, {"value": value}, is_exchange, value, None, None)
            self.told(InvalidFilling, {"value": value}, is_exchange, STILL, value, None)
        self.told(UnlikeWebs, {}, exchange, STILL, simple_filling(THREE, 0))
        self.told(UnlikeWebs, {}, is_exchange, STILL, simple_filling(THREE, 0), None)


if __name__ == "__main__":
    unittest.main()
