"""[6a1] to [6a5]: weights, steady rows, ways of a weight, squares, weight papers; of [4] SQUARE OR BARRED."""

import random
import unittest

from sureparts.errors import (InvalidFilling, InvalidNumbers, InvalidRow, InvalidWeb, InvalidWeight, NotLevel,
                              TooMany)
from sureparts.fillings import Filling, drawn_filling, nought_filling
from sureparts.maps import lack
from sureparts.reduced import rank
from sureparts.sure import sure_parts
from sureparts.tables import Table, nought, unit
from sureparts.webs import Web
from sureparts.weights import is_steady, is_weight_paper, square, weighs, weight_paper, weight_ways
from tests.helpers import (NO_WEBS, PRIME, STRANGE, WEBS, Case, added, below, drawn, drawn_row, drawn_web, no_rows,
                           otherwise, rows_at, taken_off)

PAIR = Web(2, [(0, 1), (0, 1)])
ONE, NO = Table(1, 1, [[1]]), Table(1, 1, [[0]])
NEAR = Filling(PAIR, [1, 1], [ONE, NO])
TURNS = Filling(PAIR, [2, 2], [unit(2), Table(2, 2, [[0, PRIME - 1], [1, 0]])])
ROWS, WAYS = {"what": "rows", "limit": 400}, {"what": "numbers", "limit": 400}
NO_FILLINGS = STRANGE + [0, [], (), [1, 1], PAIR, ONE, [NEAR], (PAIR, [1, 1], [ONE, NO])]
NO_WEIGHTS = STRANGE + [0, 1, [], (), [1], [1, 1, 1], [7, 0], [0, -7], [True, 0], [0, False], [None, 1], ["1", 1],
                        [[1], 1], [1, (1,)], [10 ** 30, 0], [0, -10 ** 30], "00", {0: 1, 1: 1}, PAIR]


def drawn_weight(source, web, most=2):
    return [source.randint(-most, most) for _ in range(web.places)]


def level_weight(source, web, row, most=2):
    """A drawn weight by which the row weighs 0."""
    while True:
        weight = drawn_weight(source, web, most)
        if sum(number * size for number, size in zip(weight, row)) == 0:
            return weight


def weighed_rows(seed, often, **more):
    """(web, source, row, weight): the row weighs 0."""
    for web, source, row in rows_at(seed, often, **more):
        yield web, source, row, level_weight(source, web, row)


def told_ways(web, weight):
    """The ways of the weight, by the words of [6a2]."""
    near = [place for place in range(web.places) for _ in range(max(weight[place], 0))]
    far = [place for place in range(web.places) for _ in range(max(-weight[place], 0))]
    return sorted((high, low, way) for high, end in enumerate(far) for low, begun in enumerate(near)
                  for way in web.ways(begun, end))


def told_square(filling, weight, numbers):
    """The rows of the square, put together block by block, and how wide it is."""
    row = filling.row()
    near = [place for place in range(len(row)) for _ in range(max(weight[place], 0))]
    far = [place for place in range(len(row)) for _ in range(max(-weight[place], 0))]
    rows = []
    for high, end in enumerate(far):
        for line in range(row[end]):
            told = []
            for low, begun in enumerate(near):
                for column in range(row[begun]):
                    told.append(sum(number * filling.along(way).rows()[line][column]
                                    for (a, b, way), number in zip(told_ways(filling.web(), weight), numbers)
                                    if (a, b) == (high, low)) % PRIME)
            rows.append(told)
    return rows, sum(row[place] for place in near)


def drawn_numbers(source, web, weight):
    return [source.choice([0, 1, source.randrange(PRIME)]) for _ in told_ways(web, weight)]


def fills(filling, web, row):
    return isinstance(filling, Filling) and filling.web() == web and filling.row() == list(row)


def right(web, weight, row, paper):
    """Whether a tuple of the right kinds is a weight paper, by the words of [6a5]."""
    if paper[0] == "square":
        if not fills(paper[1], web, row):
            return False
        rows, wide = told_square(paper[1], weight, paper[2])
        return rank(Table(len(rows), wide, rows)) == wide == len(rows)
    word, part, near, far = paper
    return (word == "bar" and list(part) in below(row) and weighs(web, weight, part) > 0 and fills(near, web, part)
            and fills(far, web, taken_off(row, part)) and lack(near, far) == 0)


class Weights(Case):
    def test_weighs(self):
        for web, source, row in rows_at(1, 40, sizes=3):
            weight = drawn_weight(source, web, 6)
            wanted = sum(number * size for number, size in zip(weight, row))
            self.same(weighs(web, weight, row), wanted)
            self.same(weighs(row=tuple(row), weight=tuple(weight), web=web), wanted)
        self.same(weighs(PAIR, [6, -6], [6, 1]), 30)
        self.same(weighs(PAIR, [-6, 6], [6, 1]), -30)
        self.same(weighs(PAIR, [0, 0], [6, 1]), 0)

    def test_steady_by_definition(self):
        found = []
        for web, source, row, weight in weighed_rows(2, 60):
            for told in (weight, drawn_weight(source, web)):
                wanted = weighs(web, told, row) == 0 and all(weighs(web, told, part) <= 0
                                                             for part in sure_parts(web, row))
                found.append((weighs(web, told, row) == 0, wanted))
                self.assertIs(is_steady(web, told, row), wanted)
                self.assertIs(is_steady(row=tuple(row), weight=tuple(told), web=web), wanted)
        for kind in ((True, True), (True, False), (False, False)):
            self.assertIn(kind, found)

    def test_sums_and_doubles(self):
        for web, source, row, weight in weighed_rows(3, 60):
            other = drawn_row(source, web)
            more = level_weight(source, web, row)
            steady = is_steady(web, weight, row)
            if steady and is_steady(web, weight, other):
                self.assertIs(is_steady(web, weight, added(row, other)), True)
            if steady and is_steady(web, more, row):
                self.assertIs(is_steady(web, added(weight, more), row), True)
            self.assertIs(is_steady(web, weight, [2 * size for size in row]), steady)
            self.assertIs(is_steady(web, [2 * number for number in weight], row), steady)
            self.assertIs(is_steady(web, [0] * web.places, row), True)
            self.assertIs(is_steady(web, weight, [0] * web.places), True)

    def test_400_rows_and_more(self):
        five, much = Web(5, [(0, 1)]), [4, 2, 2, 2, 2]
        zeros = [0] * 5
        self.told(TooMany, ROWS, is_steady, five, zeros, much)
        self.told(TooMany, ROWS, is_steady, five, [1] * 5, much)
        self.told(TooMany, ROWS, weight_paper, five, zeros, much)
        self.told(NotLevel, {}, weight_paper, five, [1] * 5, much)
        self.same(weighs(five, [1] * 5, much), 12)
        self.assertIs(is_weight_paper(five, zeros, much, ("square", nought_filling(five, much), [])), True)
        self.assertIs(is_steady(Web(4, []), [0] * 4, [4, 4, 3, 3]), True)

    def test_errors(self):
        for value in NO_WEBS:
            for action in (weighs, is_steady, weight_paper):
                self.told(InvalidWeb, {"value": value}, action, value, None, None)
            self.told(InvalidWeb, {"value": value}, weight_ways, value, None)
            self.told(InvalidWeb, {"value": value}, is_weight_paper, value, None, None, None)
        for value in NO_WEIGHTS:
            for action in (weighs, is_steady, weight_paper):
                self.told(InvalidWeight, {"value": value}, action, PAIR, value, None)
                self.told(InvalidWeight, {"value": value}, action, row=None, weight=value, web=PAIR)
            self.told(InvalidWeight, {"value": value}, weight_ways, PAIR, value)
            self.told(InvalidWeight, {"value": value}, weight_ways, weight=value, web=PAIR)
            self.told(InvalidWeight, {"value": value}, is_weight_paper, PAIR, value, None, None)
            self.told(InvalidWeight, {"value": value}, square, NEAR, value, None)
        for value in no_rows(PAIR):
            for action in (weighs, is_steady, weight_paper):
                self.told(InvalidRow, {"value": value}, action, PAIR, [0, 0], value)
            self.told(InvalidRow, {"value": value}, is_weight_paper, PAIR, [0, 0], value, None)
        for value in NO_FILLINGS:
            self.told(InvalidFilling, {"value": value}, square, value, None, None)
            self.told(InvalidFilling, {"value": value}, square, numbers=None, weight=None, filling=value)
        for weight, row in (([1, 0], [1, 1]), ([1, -1], [2, 1]), ([-1, -1], [0, 1]), ([6, -6], [5, 4])):
            self.told(NotLevel, {}, weight_paper, PAIR, weight, row)
            self.told(NotLevel, {}, is_weight_paper, PAIR, weight, row, None)
            self.told(NotLevel, {}, is_weight_paper, value=None, row=row, weight=weight, web=PAIR)
            self.assertIs(is_steady(PAIR, weight, row), False)

    def test_arguments_stay_and_new(self):
        weight, row, numbers = [1, -1], [2, 2], [3, 5]
        weighs(PAIR, weight, row)
        is_steady(PAIR, weight, row)
        weight_ways(PAIR, weight)
        square(TURNS, weight, numbers)
        paper = weight_paper(PAIR, weight, row)
        is_weight_paper(PAIR, weight, row, paper)
        self.same([weight, row, numbers], [[1, -1], [2, 2], [3, 5]])
        self.new_list(lambda: weight_ways(PAIR, weight))
        paper[2].append(1)
        self.assertEqual(len(weight_paper(PAIR, weight, row)[2]), 2)


class Ways(Case):
    def test_by_definition(self):
        source = random.Random(4)
        for _ in range(60):
            web = drawn_web(source, 4, 6)
            weight = drawn_weight(source, web, 3)
            wanted = told_ways(web, weight)
            self.same(weight_ways(web, weight), wanted)
            self.same(weight_ways(weight=tuple(weight), web=web), wanted)

    def test_written_out(self):
        three = Web(3, [(0, 1), (1, 2), (0, 2)])
        self.same(weight_ways(three, [2, 0, -1]), [(0, 0, (0, 1)), (0, 0, (2,)), (0, 1, (0, 1)), (0, 1, (2,))])
        self.same(weight_ways(three, [1, -2, -1]), [(0, 0, (0,)), (1, 0, (0,)), (2, 0, (0, 1)), (2, 0, (2,))])
        self.same(weight_ways(three, [1, 2, -1]), [(0, 0, (0, 1)), (0, 0, (2,)), (0, 1, (1,)), (0, 2, (1,))])
        self.same(weight_ways(three, [-1, 0, 1]), [])
        self.same(weight_ways(three, [1, 1, 1]), [])
        self.same(weight_ways(Web(3, []), [6, -6, 0]), [])

    def test_400_ways_and_more(self):
        eleven, twelve = Web(3, [(0, 1)] * 10 + [(2, 1)] * 2), Web(2, [(0, 1)] * 12)
        self.assertEqual(len(weight_ways(eleven, [5, -6, 6])), 372)
        exact = Web(3, [(0, 1)] * 4 + [(1, 2)] * 4)
        self.assertEqual(len(weight_ways(exact, [5, 0, -5])), 400)
        self.told(TooMany, WAYS, weight_ways, exact, [5, 1, -5])
        self.told(TooMany, WAYS, weight_ways, twelve, [6, -6])
        self.assertEqual(len(weight_ways(twelve, [6, -5])), 360)
        deep = Web(5, [(0, 1)] * 3 + [(1, 2)] * 3 + [(2, 3)] * 3 + [(3, 4)] * 3)
        self.assertEqual(len(weight_ways(deep, [2, 0, 0, 0, -2])), 324)
        self.told(TooMany, WAYS, weight_ways, deep, [3, 0, 0, 0, -2])
        for weight in ([5, 1, -5], (6, 0, -6)):
            self.told(TooMany, WAYS, square, nought_filling(exact, [1, 1, 1]), weight, None)
            self.told(TooMany, WAYS, square, nought_filling(exact, [0, 0, 0]), weight, [])


class Squares(Case):
    def test_by_definition(self):
        level = set()
        for web, source, row in rows_at(5, 150, sizes=3):
            weight = drawn_weight(source, web)
            filling, numbers = drawn(source, web, row), drawn_numbers(source, web, weight)
            told = square(filling, weight, numbers)
            rows, wide = told_square(filling, weight, numbers)
            self.assertTrue(told == Table(len(rows), wide, rows))
            self.assertTrue(square(numbers=tuple(numbers), weight=tuple(weight), filling=filling) == told)
            self.assertIs(told.tall == told.wide, weighs(web, weight, row) == 0)
            level.add(told.tall == told.wide)
        self.assertEqual(level, {True, False})

    def test_0_tall(self):
        self.assertTrue(square(NEAR, [0, 0], []) == nought(0, 0))
        self.assertTrue(square(NEAR, [2, 0], []) == nought(0, 2))
        self.assertTrue(square(NEAR, [0, -2], []) == nought(2, 0))
        self.assertTrue(square(NEAR, [-1, 1], []) == nought(1, 1))
        self.assertTrue(square(nought_filling(PAIR, [0, 0]), [1, -1], [3, 4]) == nought(0, 0))
        self.assertTrue(square(nought_filling(PAIR, [6, 6]), [6, 6], []) == nought(0, 72))

    def test_no_numbers(self):
        wrong = STRANGE + [0, [], (), [1], [1, 2, 3], [1, PRIME], [-1, 1], [True, 1], [1, None], ["1", "2"], [[1], 2],
                           [1, (2,)], "12", {0: 1, 1: 2}]
        for value in wrong:
            self.told(InvalidNumbers, {"value": value}, square, TURNS, [1, -1], value)
            self.told(InvalidNumbers, {"value": value}, square, numbers=value, weight=[1, -1], filling=TURNS)
        self.told(InvalidNumbers, {"value": [0]}, square, TURNS, [0, 0], [0])

    def test_for_example(self):
        self.same(square(TURNS, [1, -1], [3, 5]).rows(), [[3, 10002], [5, 3]])
        self.same(square(TURNS, [1, -1], (0, 1)).rows(), [[0, PRIME - 1], [1, 0]])
        self.same(square(NEAR, [2, -2], [1, 2, 3, 4, 5, 6, 7, 8]).rows(), [[1, 3], [5, 7]])


class Papers(Case):
    def test_just_one_kind(self):
        words = []
        for web, _, row, weight in weighed_rows(6, 120):
            paper = weight_paper(web, weight, row)
            words.append(paper[0])
            self.assertIs(type(paper), tuple)
            self.assertEqual(paper[0], "square" if is_steady(web, weight, row) else "bar")
            self.assertTrue(right(web, weight, row, paper))
            self.assertIs(is_weight_paper(web, weight, row, paper), True)
            named = weight_paper(row=tuple(row), weight=tuple(weight), web=web)
            self.assertIs(is_weight_paper(value=named, row=tuple(row), weight=tuple(weight), web=web), True)
            if paper[0] == "square":
                self.assertIs(type(paper[2]), list)
                turned = ("square", paper[1], tuple(paper[2]))
            else:
                self.assertIs(type(paper[1]), list)
                turned = ("bar", tuple(paper[1])) + paper[2:]
            self.assertIs(is_weight_paper(web, weight, row, turned), True)
        self.assertGreater(words.count("square"), 15)
        self.assertGreater(words.count("bar"), 15)

    def test_exactly_the_right_ones(self):
        source = random.Random(7)
        found = []
        for web, _, row, weight in weighed_rows(8, 60):
            for part in below(row)[:9]:
                rows = [row, part, taken_off(row, part)]
                if source.random() < 0.2:
                    rows[source.randrange(3)] = drawn_row(source, web, 1)
                one, near, far = [drawn(source, web, inner) for inner in rows]
                for paper in (("square", one, drawn_numbers(source, web, weight)), ("bar", part, near, far)):
                    wanted = right(web, weight, row, paper)
                    found.append((paper[0], wanted))
                    self.assertIs(is_weight_paper(web, weight, row, paper), wanted)
                    if wanted:
                        self.assertIs(is_steady(web, weight, row), paper[0] == "square")
        for kind in (("square", True), ("square", False), ("bar", True), ("bar", False)):
            self.assertGreater(found.count(kind), 10)

    def test_put_otherwise(self):
        for web, _, row, weight in weighed_rows(9, 40):
            paper = weight_paper(web, weight, row)
            for value in otherwise(paper):
                if paper[0] == "square" and paper[2] == [] and value in (paper[:2] + ([],), paper[:2] + ((),)):
                    continue
                self.assertIs(is_weight_paper(web, weight, row, value), False)
            for word in ("sure", "Square", "steady", "bar" if paper[0] == "square" else "square"):
                self.assertIs(is_weight_paper(web, weight, row, (word,) + paper[1:]), False)
            if paper[0] == "square" and paper[2]:
                for numbers in (paper[2] + [0], paper[2][1:], [PRIME] + paper[2][1:], [True] + paper[2][1:]):
                    self.assertIs(is_weight_paper(web, weight, row, ("square", paper[1], numbers)), False)

    def test_for_example(self):
        self.assertIs(is_weight_paper(PAIR, [1, -1], [2, 2], ("square", TURNS, [3, 5])), True)
        self.assertIs(is_weight_paper(PAIR, [1, -1], [2, 2], ("square", TURNS, [0, 0])), False)
        self.assertIs(is_weight_paper(PAIR, [1, -1], [1, 1], ("square", TURNS, [3, 5])), False)
        low, high = nought_filling(PAIR, [0, 1]), nought_filling(PAIR, [1, 0])
        self.assertIs(is_weight_paper(PAIR, [-1, 1], [1, 1], ("bar", (0, 1), low, high)), True)
        self.assertIs(is_weight_paper(PAIR, [-1, 1], [1, 1], ("bar", [0, 1], high, low)), False)
        self.assertIs(is_weight_paper(PAIR, [-1, 1], [1, 1], ("bar", [False, True], low, high)), False)
        # A part that weighs above 0, but isn't shown to be sure; and a sure part that weighs nought.
        self.assertIs(is_weight_paper(PAIR, [1, -1], [1, 1], ("bar", [1, 0], high, low)), False)
        none = nought_filling(PAIR, [0, 0])
        self.assertIs(is_weight_paper(PAIR, [-1, 1], [1, 1], ("bar", [1, 1], NEAR, none)), False)
        self.assertIs(is_weight_paper(PAIR, [-1, 1], [1, 1], ("bar", [0, 0], none, NEAR)), False)

    def test_noughts(self):
        for web in WEBS:
            zeros = [0] * web.places
            paper = weight_paper(web, zeros, [1] * web.places)
            self.assertEqual(paper[0], "square")
            self.same(paper[2], [])
            self.assertIs(is_weight_paper(web, zeros, [1] * web.places, paper), True)
            self.assertIs(is_weight_paper(web, zeros, [1] * web.places, paper[:2] + ([0],)), False)
            weight = [1] + [-1] * (web.places - 1)
            paper = weight_paper(web, weight, zeros)
            self.assertEqual(paper[0], "square")
            self.assertIs(is_weight_paper(web, weight, zeros, paper), True)

    def test_greatest_weights(self):
        web = Web(2, [(0, 1), (0, 1)])
        paper = weight_paper(web, [6, -6], [3, 3])
        self.assertEqual(paper[0], "square")
        self.assertIs(is_weight_paper(web, [6, -6], [3, 3], paper), True)
        self.assertEqual(square(paper[1], [6, -6], paper[2]).tall, 18)
        self.assertEqual(weight_paper(web, [-6, 6], [3, 3])[0], "bar")

    def test_more_than_400_ways(self):
        twelve = Web(2, [(0, 1)] * 12)
        self.told(TooMany, WAYS, weight_paper, twelve, [6, -6], [1, 1])
        more = Web(5, [(0, 1)] * 12)
        self.told(TooMany, ROWS, weight_paper, more, [6, -6, 0, 0, 0], [2, 2, 3, 3, 3])
        # It is of steady rows alone that squares are told.
        self.assertEqual(weight_paper(twelve, [-6, 6], [1, 1])[0], "bar")
        exact = Web(3, [(0, 1)] * 4 + [(1, 2)] * 4)
        self.told(TooMany, WAYS, weight_paper, exact, [5, 1, -6], [1, 1, 1])
        self.told(NotLevel, {}, weight_paper, exact, [5, 1, -5], [1, 1, 1])
        filling = drawn_filling(twelve, [1, 1], 5)
        numbers = [0] * 432
        for at in range(6):
            numbers[at * 72 + at * 12] = 1
        self.assertIs(is_weight_paper(twelve, [6, -6], [1, 1], ("square", filling, numbers)), True)
        self.assertIs(is_weight_paper(twelve, [6, -6], [1, 1], ("square", filling, [0] * 432)), False)
        self.assertIs(is_weight_paper(twelve, [6, -6], [1, 1], ("square", filling, numbers[1:])), False)
        bar = weight_paper(twelve, [-6, 6], [1, 1])
        self.assertIs(is_weight_paper(twelve, [-6, 6], [1, 1], bar), True)
        self.assertIs(is_weight_paper(twelve, [6, -6], [1, 1], bar), False)


if __name__ == "__main__":
    unittest.main()
