"""[7a1] to [7a7]: ends, turned webs, turned rows, turned fillings, full fillings."""

import random
import unittest

from sureparts.errors import InvalidFilling, InvalidPlace, InvalidRow, InvalidWeb, NotAbove, NotEnd, TooMany
from sureparts.fillings import Filling, both, drawn_filling, exchanged, nought_filling, simple_filling
from sureparts.maps import all_maps, lack, maps_many
from sureparts.reduced import heads, kernel, rank, reduced, undone
from sureparts.rows import form, is_row
from sureparts.tables import Table, above, beside, nought, plus, scaled, turned, unit
from sureparts.turning import is_full, sinks, sources, turned_at, turned_at_filling, turned_row
from sureparts.webs import Web
from tests.helpers import (NO_WEBS, PRIME, STRANGE, WEBS, Case, drawn, drawn_row, drawn_web, no_rows, rows_at)

PAIR, CHAIN, LONE = Web(2, [(0, 1), (0, 1)]), Web(3, [(0, 1), (1, 2)]), Web(3, [(0, 1)])
WIDE = Filling(PAIR, [2, 1], [Table(1, 2, [[1, 0]]), Table(1, 2, [[0, 1]])])
ROW, SUM = {"what": "row", "limit": 6}, {"what": "sum", "limit": 24}
NO_FILLINGS = STRANGE + [0, [], (), [1, 1], PAIR, unit(1), [WIDE], (PAIR, [0, 0], [])]
NO_PLACES = STRANGE + [-1, 2, 10 ** 30, [], (), [0], (0,), PAIR]


def ends(web):
    return sorted(set(sinks(web)) | set(sources(web)))


def tables_at(filling, place):
    return [table for arrow, table in zip(filling.web().arrows(), filling.tables()) if place in arrow]


def gathered(filling, place):
    """B at a sink, C at a source, by the words of [7a3] and [7a4]."""
    size = filling.row()[place]
    if place in sinks(filling.web()):
        told = nought(size, 0)
        for table in tables_at(filling, place):
            told = beside(told, table)
    else:
        told = nought(0, size)
        for table in tables_at(filling, place):
            told = above(told, table)
    return told


def traces(filling, place):
    """For each position in C, the trace of the list with 1 there alone."""
    tall = gathered(filling, place).tall
    room = reduced(turned(gathered(filling, place)))
    out = []
    for position in range(tall):
        line = [int(at == position) for at in range(tall)]
        for head, row in zip(heads(room), room.rows()):
            often = line[head]
            line = [(rest - often * other) % PRIME for rest, other in zip(line, row)]
        out.append([line[at] for at in range(tall) if at not in heads(room)])
    return out


def by_the_words(filling, place):
    """The sizes and the rows of the tables of the turned filling."""
    web, row, out = filling.web(), filling.row(), []
    start = 0
    sink = place in sinks(web)
    lost = kernel(gathered(filling, place)).rows() if sink else traces(filling, place)
    new = len(lost) if sink else gathered(filling, place).tall - rank(gathered(filling, place))
    for (tail, head), table in zip(web.arrows(), filling.tables()):
        if place not in (tail, head):
            out.append(table.rows())
        elif sink:
            out.append([[line[start + at] for line in lost] for at in range(table.wide)])
            start += table.wide
        else:
            out.append([[lost[start + at][high] for at in range(table.tall)] for high in range(new)])
            start += table.tall
    return [new if at == place else size for at, size in enumerate(row)], out


def fillings_at_ends(seed, often=60, most=3):
    """(source, filling, end), the row turned there being one."""
    for web, source, row in rows_at(seed, often, most=4, sizes=most):
        for place in ends(web):
            for filling in (drawn(source, web, row), drawn_filling(web, row, source.randrange(PRIME))):
                sizes, _ = by_the_words(filling, place)
                if is_row(web, sizes):
                    yield source, filling, place


def neighbours(web, place, row):
    return [row[head + tail - place] for tail, head in web.arrows() if place in (tail, head)]


def some_exchange(filling, other):
    """Whether some drawn sum of the maps can be undone at all places."""
    source = random.Random(1)
    told = all_maps(filling, other)
    for _ in range(3):
        across = [nought(size, size) for size in filling.row()]
        for inner in told:
            often = source.randrange(PRIME)
            across = [plus(table, scaled(more, often)) for table, more in zip(across, inner)]
        if all(undone(table) is not None for table in across):
            return exchanged(filling, across) == other
    return False


class Ends(Case):
    def test_sinks_and_sources(self):
        source = random.Random(1)
        for web in WEBS + [drawn_web(source, 5, 6) for _ in range(60)]:
            tails, reached = [tail for tail, _ in web.arrows()], [head for _, head in web.arrows()]
            self.same(sinks(web), [place for place in range(web.places) if place not in tails])
            self.same(sources(web=web), [place for place in range(web.places) if place not in reached])
        self.same([sinks(CHAIN), sources(CHAIN), sinks(LONE), sources(LONE)], [[2], [0], [1, 2], [0, 2]])
        self.same([sinks(Web(1, [])), sources(Web(1, []))], [[0], [0]])
        self.new_list(lambda: sinks(LONE))
        self.new_list(lambda: sources(LONE))

    def test_turned_webs(self):
        source = random.Random(2)
        for web in WEBS + [drawn_web(source, 5, 6) for _ in range(60)]:
            for place in range(web.places):
                if place not in ends(web):
                    self.told(NotEnd, {}, turned_at, web, place)
                    self.told(NotEnd, {}, turned_at, place=place, web=web)
                    continue
                told = turned_at(web, place)
                self.same(told.arrows(), [(head, tail) if place in (tail, head) else (tail, head)
                                          for tail, head in web.arrows()])
                self.same(told.places, web.places)
                self.assertEqual(place in sinks(web), place in sources(told))
                self.assertEqual(place in sources(web), place in sinks(told))
                self.assertTrue(turned_at(place=place, web=told) == web)
        self.assertTrue(turned_at(LONE, 2) == LONE)

    def test_errors(self):
        for value in NO_WEBS:
            for action in (sinks, sources):
                self.told(InvalidWeb, {"value": value}, action, value)
            self.told(InvalidWeb, {"value": value}, turned_at, value, None)
            self.told(InvalidWeb, {"value": value}, turned_row, value, None, None)
        for value in NO_FILLINGS:
            for action in (is_full, turned_at_filling):
                self.told(InvalidFilling, {"value": value}, action, value, None)
                self.told(InvalidFilling, {"value": value}, action, place=None, filling=value)
        for value in NO_PLACES:
            self.told(InvalidPlace, {"value": value}, turned_at, PAIR, value)
            self.told(InvalidPlace, {"value": value}, turned_row, PAIR, value, None)
            for action in (is_full, turned_at_filling):
                self.told(InvalidPlace, {"value": value}, action, WIDE, value)
                self.told(InvalidPlace, {"value": value}, action, place=value, filling=WIDE)
        for value in no_rows(PAIR):
            self.told(InvalidRow, {"value": value}, turned_row, PAIR, 0, value)
            self.told(InvalidRow, {"value": value}, turned_row, row=value, place=0, web=PAIR)

    def test_no_ends(self):
        middle = nought_filling(CHAIN, [6, 6, 6])
        self.told(NotEnd, {}, turned_at, CHAIN, 1)
        self.told(NotEnd, {}, turned_row, CHAIN, 1, [0, 6, 0])
        self.told(InvalidRow, {"value": [0, 7, 0]}, turned_row, CHAIN, 1, [0, 7, 0])
        self.told(NotEnd, {}, is_full, middle, 1)
        self.told(NotEnd, {}, turned_at_filling, middle, 1)


class Rows(Case):
    def test_by_definition(self):
        found = set()
        for web, _, row in rows_at(3, 100, most=4, sizes=4):
            for place in ends(web):
                size = sum(neighbours(web, place, row)) - row[place]
                wanted = [size if at == place else own for at, own in enumerate(row)]
                if size < 0:
                    self.told(NotAbove, {}, turned_row, web, place, row)
                elif size > 6:
                    self.told(TooMany, ROW, turned_row, web, place, tuple(row))
                else:
                    self.same(turned_row(web, place, row), wanted)
                    self.same(turned_row(row=tuple(row), place=place, web=web), wanted)
                    self.same(turned_row(turned_at(web, place), place, wanted), row)
                found.add(min(max(size, -1), 7))
        self.assertTrue({-1, 0, 1, 7} <= found)

    def test_forms_stay(self):
        for web, source, row in rows_at(4, 100):
            other = drawn_row(source, web, 3)
            for place in ends(web):
                try:
                    one, late = turned_row(web, place, row), turned_row(web, place, other)
                except (NotAbove, TooMany):
                    continue
                self.assertEqual(form(turned_at(web, place), one, late), form(web, row, other))

    def test_places_without_arrows(self):
        self.same(turned_row(LONE, 2, [4, 5, 0]), [4, 5, 0])
        self.told(NotAbove, {}, turned_row, LONE, 2, [4, 5, 1])
        self.told(NotAbove, {}, turned_row, Web(1, []), 0, [6])

    def test_sizes_and_sums(self):
        self.same(turned_row(PAIR, 1, [3, 0]), [3, 6])
        self.same(turned_row(PAIR, 1, [3, 6]), [3, 0])
        self.same(turned_row(PAIR, 1, [4, 2]), [4, 6])
        self.told(TooMany, ROW, turned_row, PAIR, 1, [4, 1])
        self.told(NotAbove, {}, turned_row, PAIR, 1, [0, 1])
        star = Web(5, [(0, 4), (1, 4), (2, 3), (1, 0)])
        self.same(turned_row(star, 4, [5, 1, 6, 6, 0]), [5, 1, 6, 6, 6])
        self.same(turned_row(star, 4, [6, 0, 6, 6, 0]), [6, 0, 6, 6, 6])
        self.told(TooMany, SUM, turned_row, star, 4, [5, 2, 6, 6, 1])
        self.told(TooMany, ROW, turned_row, star, 4, [5, 2, 6, 6, 0])

    def test_arguments_stay_and_new(self):
        row = [2, 1]
        self.new_list(lambda: turned_row(PAIR, 1, row))
        self.new_list(lambda: turned_row(LONE, 2, [0, 0, 0]))
        self.same(row, [2, 1])


class Fillings(Case):
    def test_by_the_words(self):
        kinds = set()
        for _, filling, place in fillings_at_ends(5):
            sizes, rows = by_the_words(filling, place)
            told = turned_at_filling(filling, place)
            self.assertTrue(told.web() == turned_at(filling.web(), place))
            self.same(told.row(), sizes)
            self.same([table.rows() for table in told.tables()], rows)
            self.assertTrue(turned_at_filling(place=place, filling=filling) == told)
            kinds.add((place in sinks(filling.web()), is_full(filling, place)))
        self.assertEqual(len(kinds), 4)

    def test_full(self):
        found = []
        for _, filling, place in fillings_at_ends(6):
            size = filling.row()[place]
            full = rank(gathered(filling, place)) == size
            found.append(full)
            self.assertIs(is_full(filling, place), full)
            self.assertIs(is_full(place=place, filling=filling), full)
            told = turned_at_filling(filling, place)
            least = sum(neighbours(filling.web(), place, filling.row())) - size
            self.assertEqual(told.row()[place] == least, full)
            self.assertGreaterEqual(told.row()[place], least)
            self.assertIs(is_full(told, place), True)
        self.assertGreater(found.count(True), 20)
        self.assertGreater(found.count(False), 20)

    def test_turned_twice(self):
        found = set()
        for _, filling, place in fillings_at_ends(7, often=40, most=2):
            web, size = filling.web(), filling.row()[place]
            back = turned_at_filling(turned_at_filling(filling, place), place)
            full = rank(gathered(filling, place))
            self.assertTrue(back.web() == web)
            self.assertEqual(back.row()[place], full)
            for _ in range(size - full):
                back = both(back, simple_filling(web, place))
            self.assertTrue(some_exchange(filling, back))
            found.add(size - full > 0)
        self.assertEqual(found, {True, False})

    def test_maps_and_lack_stay(self):
        seen = 0
        for source, filling, place in fillings_at_ends(8, often=40, most=2):
            web = filling.web()
            other = drawn_filling(web, drawn_row(source, web, 2), source.randrange(PRIME))
            if not is_full(filling, place) or not is_full(other, place):
                continue
            try:
                one, late = turned_at_filling(filling, place), turned_at_filling(other, place)
            except TooMany:
                continue
            for near, far, first, second in ((one, late, filling, other), (late, one, other, filling),
                                             (one, one, filling, filling)):
                self.assertEqual(maps_many(near, far), maps_many(first, second))
                self.assertEqual(lack(near, far), lack(first, second))
            seen += 1
        self.assertGreater(seen, 20)

    def test_size_0_and_without_arrows(self):
        none = nought_filling(PAIR, [2, 0])
        self.assertIs(is_full(none, 1), True)
        told = turned_at_filling(none, 1)
        self.same(told.row(), [2, 4])
        self.same([table.rows() for table in told.tables()], [[[1, 0, 0, 0], [0, 1, 0, 0]],
                                                              [[0, 0, 1, 0], [0, 0, 0, 1]]])
        self.assertIs(is_full(nought_filling(PAIR, [2, 1]), 1), False)
        self.same(turned_at_filling(nought_filling(PAIR, [2, 1]), 1).row(), [2, 4])
        for size in (0, 1, 6):
            lone = nought_filling(LONE, [0, 0, size])
            self.assertIs(is_full(lone, 2), size == 0)
            self.assertTrue(turned_at_filling(lone, 2) == nought_filling(LONE, [0, 0, 0]))
        told = turned_at_filling(nought_filling(PAIR, [0, 3]), 0)
        self.same(told.row(), [6, 3])
        self.same(told.tables()[1].rows()[3:], [[1, 0, 0], [0, 1, 0], [0, 0, 1]])

    def test_too_many(self):
        self.same(turned_at_filling(nought_filling(PAIR, [3, 6]), 1).row(), [3, 6])
        self.told(TooMany, ROW, turned_at_filling, nought_filling(PAIR, [4, 0]), 1)
        self.told(TooMany, ROW, turned_at_filling, drawn_filling(PAIR, [4, 1], 3), 1)
        self.same(turned_at_filling(drawn_filling(PAIR, [4, 2], 3), 1).row(), [4, 6])
        self.told(TooMany, ROW, turned_at_filling, nought_filling(Web(2, [(0, 1)] * 12), [6, 6]), 1)
        self.told(TooMany, ROW, turned_at_filling, nought_filling(Web(2, [(0, 1)] * 12), [6, 6]), 0)
        star = Web(5, [(0, 4), (1, 4), (2, 3)])
        self.same(turned_at_filling(nought_filling(star, [3, 3, 6, 6, 0]), 4).row(), [3, 3, 6, 6, 6])
        self.told(TooMany, SUM, turned_at_filling, drawn_filling(star, [6, 1, 6, 6, 1], 1), 4)
        self.same(turned_at_filling(drawn_filling(star, [1, 6, 6, 6, 2], 1), 4).row(), [1, 6, 6, 6, 5])
        self.told(TooMany, SUM, turned_at_filling, drawn_filling(star, [2, 5, 6, 6, 1], 1), 4)

    def test_for_example(self):
        told = turned_at_filling(WIDE, 1)
        self.assertIs(is_full(WIDE, 1), True)
        self.same(gathered(WIDE, 1).rows(), [[1, 0, 0, 1]])
        self.same(told.web().arrows(), [(1, 0), (1, 0)])
        self.same(told.row(), [2, 3])
        self.same([table.rows() for table in told.tables()],
                  [[[1, 0, 0], [0, 1, 0]], [[0, 0, 1], [PRIME - 1, 0, 0]]])

    def test_argument_stays(self):
        kept = Filling(PAIR, WIDE.row(), WIDE.tables())
        turned_at_filling(WIDE, 0)
        turned_at_filling(WIDE, 1)
        self.assertTrue(WIDE == kept)


if __name__ == "__main__":
    unittest.main()
