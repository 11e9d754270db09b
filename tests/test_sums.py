"""[8b1] to [8b5]: three falling lists that fit or have a bar, and hives."""

import itertools
import random
import unittest

from sureparts.errors import InvalidSets, InvalidThree
from sureparts.flags import is_meeting, meetings
from sureparts.sums import fit_bar, fit_paper, hive_of, is_fit, is_fit_paper, is_hive, sum_at
from tests.helpers import JUNK, STRANGE, Case, otherwise

RIGHT, WRONG = ([1, -1], [1, -1], [0, 0]), ([2, -2], [1, -1], [0, 0])
FOUR = ([9, 0, 0, -9], [9, 3, -3, -9], [5, 1, -2, -4])
NO_THREES = STRANGE + [0, 1, [], (), list(RIGHT), RIGHT[:2], RIGHT + ([0, 0],), ([], [], []), ([0] * 5,) * 3,
                       ([0], [0], [0, 0]), ([0, 0], [0], [0]), ([1], [0], [0]), ([-1, 1], [0, 0], [0, 0]),
                       ([1, -1], [1, -1], [0, 1]), ([1, -1], [1, -1], [-1, 1]), ([10], [-5], [-5]),
                       ([9, 9], [-8, -10], [0, 0]), ([True], [0], [-1]), ([0], [False], [0]), ([0], [None], [0]),
                       ([0], ["0"], [0]), ([0], [[0]], [0]), ([0], 0, [0]), ("0", "0", "0"), ({0: 0}, [0], [0]),
                       ([10 ** 29], [-10 ** 29], [0]), {0: [0], 1: [0], 2: [0]}, (RIGHT,)]
NO_SETS = STRANGE + [0, [], (), [(0,), (0,), (0,)], ([0], [0], [0]), ((0,), (0,)), ((0,), (0,), ()), ((2,), (0,), (0,)),
                     ((-1,), (0,), (0,)), ((True,), (0,), (0,)), ((0, 0), (0, 1), (0, 1)), ((1, 0), (0, 1), (0, 1)),
                     ((0, 1, 2),) * 3, ((0,),) * 4, ((0,), (0,), (None,))]


def drawn_three(source, size, most):
    """Three lists with numbers up to most, drawn until they sum to 0."""
    while True:
        three = [sorted([source.randint(-most, most) for _ in range(size)], reverse=True) for _ in range(3)]
        if sum(map(sum, three)) == 0:
            return tuple(three)


def threes(seed, often=60, sizes=(1, 2, 3, 4)):
    source = random.Random(seed)
    for size in sizes:
        for _ in range(often):
            yield source, drawn_three(source, size, source.randint(0, 9))


def summed(three, sets):
    return sum(told[at] for told, positions in zip(three, sets) for at in positions)


def bars(three):
    size = len(three[0])
    return [sets for many in range(size) for sets in meetings(size, many) if summed(three, sets) > 0]


def neighbours(size):
    """For each spot of a hive the list of its neighbours, by the words of [8b3]."""
    spots = [(i, j) for i in range(size + 1) for j in range(size + 1 - i)]
    near = {spot: [] for spot in spots}
    for i, j in spots:
        for one, other in (((i, j), (i, j + 1)), ((i, j), (i + 1, j)), ((i, j + 1), (i + 1, j))):
            if one in near and other in near:
                near[one].append(other)
                near[other].append(one)
    return near


def right_hive(three, hive):
    """Whether lists of the right lengths are a hive of the three lists, by the words of [8b3]."""
    size = len(three[0])
    around = [(0, j) for j in range(size + 1)] + [(i, size - i) for i in range(1, size + 1)]
    around += [(i, 0) for i in range(size - 1, -1, -1)]
    height = 0
    for (i, j), step in zip(around, [0] + [number for told in three for number in told]):
        height += step
        if hive[i][j] != height:
            return False
    near = neighbours(size)
    for one in near:
        for other in near[one]:
            common = [spot for spot in near[one] if spot in near[other]]
            if len(common) == 2:
                ahead = hive[one[0]][one[1]] + hive[other[0]][other[1]]
                if ahead < sum(hive[i][j] for i, j in common):
                    return False
    return True


class Sums(Case):
    def test_sum_at(self):
        for source, three in threes(1):
            size = len(three[0])
            for many in range(size + 1):
                rising = list(itertools.combinations(range(size), many))
                sets = (source.choice(rising), source.choice(rising), source.choice(rising))
                self.same(sum_at(three, sets), summed(three, sets))
                self.same(sum_at(sets=sets, three=tuple(map(tuple, three))), summed(three, sets))
            self.same(sum_at(three, ((), (), ())), 0)
            self.same(sum_at(three, (tuple(range(size)),) * 3), 0)

    def test_fit_and_bar_by_definition(self):
        found = []
        for _, three in threes(2):
            told = bars(three)
            found.append(not told)
            self.assertIs(is_fit(three), not told)
            self.assertIs(is_fit(three=tuple(map(tuple, three))), not told)
            self.same(fit_bar(three), told[0] if told else None)
            self.same(fit_bar(three=tuple(map(tuple, three))), told[0] if told else None)
        self.assertGreater(found.count(True), 40)
        self.assertGreater(found.count(False), 40)

    def test_one_number(self):
        for one, other in itertools.product(range(-9, 10), repeat=2):
            if abs(one + other) <= 9:
                three = ([one], [other], [-one - other])
                self.assertIs(is_fit(three), True)
                self.assertTrue(is_hive(three, [[0, one], [one + other]]))
                self.same(hive_of(three), [[0, one], [one + other]])

    def test_two_numbers_and_noughts(self):
        for one, other in itertools.product(range(10), repeat=2):
            for down in range(-9, 1):
                three = ([one, down], [other, -one - down - other], [0, 0])
                if not -9 <= three[1][1] <= other:
                    continue
                self.assertIs(is_fit(three), three[1] == [-down, -one])

    def test_all_small_ones_of_two(self):
        lists = [[a, b] for a in range(-2, 3) for b in range(-2, a + 1)]
        for three in itertools.product(lists, repeat=3):
            if sum(map(sum, three)) == 0:
                self.assertIs(is_fit(three), not bars(three))
                self.assertEqual(hive_of(three) is not None, is_fit(three))

    def test_other_sequences_turned_and_multiples(self):
        for _, three in threes(3, often=40):
            fit = is_fit(three)
            for other in itertools.permutations(three):
                self.assertIs(is_fit(other), fit)
            self.assertIs(is_fit(tuple([-number for number in told[::-1]] for told in three)), fit)
            most = max(abs(number) for told in three for number in told)
            for often in range(1, 10):
                if most * often <= 9:
                    self.assertIs(is_fit(tuple([number * often for number in told] for told in three)), fit)

    def test_added(self):
        seen = 0
        for source, three in threes(4, often=150):
            other = drawn_three(source, len(three[0]), 3)
            both = tuple([a + b for a, b in zip(one, late)] for one, late in zip(three, other))
            if is_fit(three) and is_fit(other) and max(abs(number) for told in both for number in told) <= 9:
                self.assertIs(is_fit(both), True)
                seen += 1
        self.assertGreater(seen, 40)

    def test_edges(self):
        # Sums of meeting sets of just 0, and of 1.
        self.assertIs(is_fit(([4, -4], [2, -2], [2, -2])), True)
        self.assertEqual(max(sum_at(([4, -4], [2, -2], [2, -2]), sets) for sets in meetings(2, 1)), 0)
        self.assertIs(is_fit(([4, -4], [2, -2], [1, -1])), False)
        self.same(fit_bar(([4, -4], [2, -2], [1, -1])), ((0,), (1,), (1,)))
        self.assertIs(is_fit(([9, 9, 9, 9], [-9, -9, -9, -9], [0, 0, 0, 0])), True)
        self.assertIs(is_fit(([9, 9, -9, -9], [9, 9, -9, -9], [9, 9, -9, -9])), True)
        self.assertIs(is_fit(([9, 9, 9, -9], [-3, -3, -3, -9], [0, 0, 0, 0])), False)
        # Bars of three positions of four alone: no less sets tell them.
        lengths = {len(fit_bar(three)[0]) for _, three in threes(5, often=200, sizes=(4,)) if not is_fit(three)}
        self.assertEqual(lengths, {1, 2, 3})

    def test_errors(self):
        for value in NO_THREES:
            for action in (is_fit, fit_bar, hive_of, fit_paper):
                self.told(InvalidThree, {"value": value}, action, value)
                self.told(InvalidThree, {"value": value}, action, three=value)
            for action in (sum_at, is_hive, is_fit_paper):
                self.told(InvalidThree, {"value": value}, action, value, None)
        for value in NO_SETS:
            self.told(InvalidSets, {"value": value}, sum_at, RIGHT, value)
            self.told(InvalidSets, {"value": value}, sum_at, sets=value, three=RIGHT)
        self.same(sum_at(([9], [-9], [0]), ((0,), (0,), (0,))), 0)
        self.same(sum_at(FOUR, ((0,), (0,), (0,))), 23)


class Hives(Case):
    def test_told_ones(self):
        found = set()
        for _, three in threes(6):
            hive = hive_of(three)
            found.add((len(three[0]), hive is not None))
            self.assertEqual(hive is not None, is_fit(three))
            if hive is None:
                continue
            self.assertIs(type(hive), list)
            self.assertEqual([len(row) for row in hive], list(range(len(three[0]) + 1, 0, -1)))
            self.assertTrue(right_hive(three, hive))
            self.assertIs(is_hive(three, hive), True)
            self.assertIs(is_hive(value=tuple(map(tuple, hive)), three=tuple(map(tuple, three))), True)
        self.assertEqual(len(found), 7)

    def test_exactly_the_right_ones(self):
        found = []
        for source, three in threes(7, often=50):
            hive = hive_of(three)
            if hive is None:
                continue
            for i, row in enumerate(hive):
                for j in range(len(row)):
                    for step in (-2, -1, 1, 2):
                        told = [list(inner) for inner in hive]
                        told[i][j] += step
                        wanted = right_hive(three, told)
                        found.append(wanted)
                        self.assertIs(is_hive(three, told), wanted)
        self.assertGreater(found.count(True), 20)
        self.assertGreater(found.count(False), 200)

    def test_each_of_the_three_kinds_of_neighbours(self):
        # At 5, 5, 4 all is level; each of the three spots within, raised or lowered, breaks some kind at last.
        three = ([4, 2, -2, -4], [4, 2, -2, -4], [3, 1, -1, -3])
        hive = hive_of(three)
        for i, j in ((1, 1), (1, 2), (2, 1)):
            kinds = set()
            for step in range(-15, 16):
                told = [list(inner) for inner in hive]
                told[i][j] += step
                kinds.add((step > 0) - (step < 0) if not right_hive(three, told) else None)
                self.assertIs(is_hive(three, told), right_hive(three, told))
            self.assertEqual(kinds, {None, 1, -1})

    def test_hives_of_others(self):
        for source, three in threes(8, often=30):
            hive = hive_of(drawn_three(source, len(three[0]), 3))
            if hive is not None:
                self.assertIs(is_hive(three, hive), right_hive(three, hive))

    def test_of_any_value(self):
        wrong = [[[0, 1, 0], [0, 1]], [[0, 1, 0], [0, 1], [0], []], [[0, 1, 0], [0, 1, 0], [0]], [[0, 1], [0, 1], [0]],
                 [[0, 1, 0], [0, True], [0]], [[False, 1, 0], [0, 1], [0]], [[0, 1, 0], [0, 1], [None]],
                 [[0, 1, 0], [0, 1], 0], [[0, 1, 0], [0, 1], ["0"]], [[0, 1, 0], [0, 1], [[0]]], {0: [0, 1, 0]},
                 [[0, 1, 0], [0, 1], {0: 0}], [[1, 2, 1], [1, 2], [1]], [[0, 1, 0], [0, 1], [10 ** 29]],
                 [0, 1, 0, 0, 1, 0], "abc", [[0, 1, 0], "01", [0]], ([[0, 1, 0], [0, 1], [0]],)]
        for value in JUNK + STRANGE + wrong:
            self.assertIs(is_hive(RIGHT, value), False)
        self.assertIs(is_hive(RIGHT, [[0, 1, 0], (0, 1), [0]]), True)
        self.same(hive_of(WRONG), None)

    def test_arguments_stay_and_new(self):
        three = ([1, -1], [1, -1], [0, 0])
        value = [[0, 1, 0], [0, 1], [0]]
        for action in (is_fit, fit_bar, hive_of, fit_paper):
            action(three)
        is_hive(three, value)
        self.same([three, value], [([1, -1], [1, -1], [0, 0]), [[0, 1, 0], [0, 1], [0]]])
        self.new_list(lambda: hive_of(three))


class Papers(Case):
    def test_just_one_kind(self):
        for _, three in threes(9):
            paper = fit_paper(three)
            self.assertIs(type(paper), tuple)
            self.assertEqual(paper[0], "hive" if is_fit(three) else "bar")
            self.assertIs(is_fit_paper(three, paper), True)
            self.assertIs(is_fit_paper(value=fit_paper(three=three), three=three), True)
            if paper[0] == "hive":
                self.assertTrue(right_hive(three, paper[1]))
            else:
                self.assertIn(paper[1], bars(three))

    def test_all_bars_and_no_others(self):
        for source, three in threes(10, often=15):
            size = len(three[0])
            for many in range(size + 1):
                for sets in itertools.product(itertools.combinations(range(size), many), repeat=3):
                    if source.random() < 0.3:
                        wanted = many < size and is_meeting(size, sets) and summed(three, sets) > 0
                        self.assertIs(is_fit_paper(three, ("bar", sets)), wanted)

    def test_put_otherwise(self):
        for three in (RIGHT, WRONG, ([5], [-2], [-3]), FOUR, ([3, 1, -4], [2, 2, -4], [4, -1, -3])):
            paper = fit_paper(three)
            for value in otherwise(paper):
                self.assertIs(is_fit_paper(three, value), False)
            for word in ("Hive", "sure", "bar" if paper[0] == "hive" else "hive"):
                self.assertIs(is_fit_paper(three, (word, paper[1])), False)
            for sets in NO_SETS:
                self.assertIs(is_fit_paper(three, ("bar", sets)), False)
        # Sets whose sum is above 0, but that aren't meeting; meeting ones whose sum is 0.
        self.assertIs(is_fit_paper(RIGHT, ("bar", ((0,), (0,), (0,)))), False)
        self.assertIs(is_fit_paper(RIGHT, ("bar", ((0,), (1,), (1,)))), False)
        self.assertIs(is_fit_paper(WRONG, ("bar", [(0,), (1,), (1,)])), False)
        self.assertIs(is_fit_paper(WRONG, ("bar", ((0,), (1,), (1,)))), True)


if __name__ == "__main__":
    unittest.main()
