"""[6b1] to [6b6]: slopes, even and stable rows, the steepest sure parts, steps, corners."""

import math
import unittest
from fractions import Fraction

from sureparts.errors import InvalidRow, InvalidWeb, InvalidWeight, IsNought, TooMany
from sureparts.rows import simple_row
from sureparts.steps import corners, first_step, is_even, is_stable, is_steps, slope, steepest, steps
from sureparts.sure import is_sure, least_lack, sure_parts
from sureparts.webs import Web, turned_web
from sureparts.weights import is_steady, weighs
from tests.helpers import JUNK, NO_WEBS, STRANGE, WEBS, Case, added, below, no_rows, rows_at, taken_off

PAIR, CHAIN = Web(2, [(0, 1), (0, 1)]), Web(3, [(0, 1), (1, 2)])
ROWS = {"what": "rows", "limit": 400}
NO_WEIGHTS = STRANGE + [0, [], (), [1], [1, 1, 1], [7, 0], [0, -7], [True, 0], [0, False], [None, 1], [[1], 1], "00"]
OF_ROWS = (is_even, is_stable, steepest, first_step, steps, corners)


def worth(web, weight, row):
    return Fraction(weighs(web, weight, row), sum(row))


def weighed(seed, often, most=2, **more):
    for web, source, row in rows_at(seed, often, **more):
        yield web, source, row, [source.randint(-most, most) for _ in range(web.places)]


def sure_but_noughts(web, row):
    return [part for part in sure_parts(web, row) if any(part)]


def right_steps(web, weight, row, told):
    """Whether a list of rows is that of the steps, by the words of [6b3]."""
    if not all(any(step) for step in told):
        return False
    total = [0] * web.places
    for step in told:
        total = added(total, step)
    slopes = [worth(web, weight, step) for step in told]
    even = all(worth(web, weight, part) <= worth(web, weight, step)
               for step in told for part in sure_but_noughts(web, step))
    return (total == list(row) and all(one > late for one, late in zip(slopes, slopes[1:])) and even
            and all(least_lack(web, step, late) == 0 for at, step in enumerate(told) for late in told[at + 1:]))


def sequences(web, row):
    """All lists of rows, none of them noughts, that sum to the row."""
    if not any(row):
        yield []
        return
    for part in below(row):
        if any(part):
            for more in sequences(web, taken_off(row, part)):
                yield [part] + more


class Slopes(Case):
    def test_in_lowest_terms(self):
        for web, _, row, weight in weighed(1, 80, most=6, sizes=3):
            if not any(row):
                self.told(IsNought, {}, slope, web, weight, row)
                continue
            told = slope(web, weight, row)
            self.assertIs(type(told), tuple)
            self.same(told, (worth(web, weight, row).numerator, worth(web, weight, row).denominator))
            self.assertEqual(math.gcd(*told), 1)
            self.assertGreater(told[1], 0)
            self.same(slope(row=tuple(row), weight=tuple(weight), web=web), told)

    def test_written_out(self):
        for weight, row, wanted in (([1, 0], [1, 2], (1, 3)), ([1, -1], [2, 2], (0, 1)), ([0, 0], [0, 5], (0, 1)),
                                    ([-6, 0], [4, 0], (-6, 1)), ([-1, -2], [2, 1], (-4, 3)), ([6, 6], [6, 6], (6, 1)),
                                    ([2, -4], [1, 5], (-3, 1)), ([-1, 0], [2, 4], (-1, 3))):
            self.same(slope(PAIR, weight, row), wanted)

    def test_without_too_many(self):
        self.same(slope(Web(5, []), [1, 0, 0, 0, 0], [4, 2, 2, 2, 2]), (1, 3))


class Even(Case):
    def test_by_definition(self):
        found = set()
        for web, _, row, weight in weighed(2, 120):
            parts = sure_but_noughts(web, row)
            even = any(row) and all(worth(web, weight, part) <= worth(web, weight, row) for part in parts)
            stable = any(row) and all(worth(web, weight, part) < worth(web, weight, row)
                                      for part in parts if part != row)
            found.add((even, stable))
            self.assertIs(is_even(web, weight, row), even)
            self.assertIs(is_stable(web, weight, row), stable)
            self.assertIs(is_even(row=tuple(row), weight=tuple(weight), web=web), even)
            self.assertIs(is_stable(row=tuple(row), weight=tuple(weight), web=web), stable)
        self.assertEqual(found, {(False, False), (True, False), (True, True)})

    def test_even_and_steady(self):
        level = 0
        for web, _, row, weight in weighed(3, 200):
            if any(row) and weighs(web, weight, row) == 0:
                level += 1
                self.assertIs(is_even(web, weight, row), is_steady(web, weight, row))
        self.assertGreater(level, 20)

    def test_even_is_its_own_one_step(self):
        for web, _, row, weight in weighed(4, 80):
            self.assertIs(is_even(web, weight, row), steps(web, weight, row) == [row])

    def test_noughts_and_simple_rows(self):
        for web in WEBS:
            weight = [place % 3 - 1 for place in range(web.places)]
            zeros = [0] * web.places
            self.assertIs(is_even(web, weight, zeros), False)
            self.assertIs(is_stable(web, weight, zeros), False)
            for place in range(web.places):
                row = simple_row(web, place)
                self.assertIs(is_stable(web, weight, row), True)
                self.assertIs(is_even(web, weight, [2 * size for size in row]), True)
                self.assertIs(is_stable(web, weight, [2 * size for size in row]), False)


class Steepest(Case):
    def test_by_definition(self):
        many = set()
        for web, _, row, weight in weighed(5, 100):
            if not any(row):
                continue
            parts = sure_but_noughts(web, row)
            top = max(worth(web, weight, part) for part in parts)
            wanted = [part for part in parts if worth(web, weight, part) == top]
            many.add(len(wanted) > 1)
            told = steepest(web, weight, row)
            self.same(told, wanted)
            self.assertEqual(told, sorted(told))
            self.same(steepest(row=tuple(row), weight=tuple(weight), web=web), wanted)
            first = first_step(web, weight, row)
            self.assertIn(first, told)
            self.assertTrue(all(size <= most for part in told for size, most in zip(part, first)))
            self.same(first_step(row=tuple(row), weight=tuple(weight), web=web), first)
            self.same(steps(web, weight, row), [first] + steps(web, weight, taken_off(row, first)))
        self.assertEqual(many, {True, False})

    def test_noughts(self):
        for action in (slope, steepest, first_step):
            self.told(IsNought, {}, action, CHAIN, [5, 5, 5], [0, 0, 0])
            self.told(IsNought, {}, action, row=(0, 0), weight=(0, 0), web=PAIR)


class Steps(Case):
    def test_the_one_list(self):
        lengths = set()
        for web, _, row, weight in weighed(6, 100):
            told = steps(web, weight, row)
            lengths.add(len(told))
            self.assertIs(type(told), list)
            self.assertTrue(right_steps(web, weight, row, told))
            self.same(steps(row=tuple(row), weight=tuple(weight), web=web), told)
        self.assertTrue({0, 1, 2, 3} <= lengths)

    def test_no_other_list(self):
        for web, _, row, weight in weighed(7, 40, sizes=1):
            self.same([told for told in sequences(web, row) if right_steps(web, weight, row, told)],
                      [steps(web, weight, row)])
        for weight in ([0, 1], [1, 0], [1, -1], [0, 0]):
            for row in ([2, 2], [1, 3], [3, 1]):
                self.same([told for told in sequences(PAIR, row) if right_steps(PAIR, weight, row, told)],
                          [steps(PAIR, weight, row)])

    def test_for_example(self):
        self.same(steps(PAIR, [0, 1], [2, 2]), [[0, 2], [2, 0]])
        self.same(steps(PAIR, [1, 0], [3, 1]), [[1, 0], [2, 1]])
        self.same(steps(Web(3, []), [1, 3, 1], [2, 1, 1]), [[0, 1, 0], [2, 0, 1]])
        self.same(steps(CHAIN, [0, 0, 0], [3, 1, 2]), [[3, 1, 2]])

    def test_weights_that_leave_steps(self):
        for web, source, row, weight in weighed(8, 60):
            told = steps(web, weight, row)
            for many in (2, 3):
                self.same(steps(web, [many * number for number in weight], row), told)
            more = source.randint(-4, 4)
            self.same(steps(web, [number + more for number in weight], row), told)
            back = [-number for number in weight]
            self.same(steps(turned_web(web), back, row), told[::-1])

    def test_is_steps_of_any_value(self):
        for web, _, row, weight in weighed(9, 60):
            told = steps(web, weight, row)
            self.assertIs(is_steps(web, weight, row, told), True)
            self.assertIs(is_steps(value=tuple(map(tuple, told)), row=tuple(row), weight=weight, web=web), True)
            zeros = [0] * web.places
            wrong = [told + [zeros], [zeros] + told, [told], (told,), {0: told}, [None], told + [None], "ab", web, 0, 1]
            if told:
                wrong += [told[1:], told[:-1], told + told[-1:], told[:1] + told]
            if len(told) > 1:
                wrong += [told[::-1], [row], [added(told[0], told[1])] + told[2:]]
            for at, step in enumerate(told):
                counted = [bool(size) if size < 2 else None for size in step]
                more = [size + 1 for size in step]
                wrong += [told[:at] + [other] + told[at + 1:]
                          for other in JUNK + [step[:-1], step + [0], more, counted, [step]]]
            for value in wrong + STRANGE:
                self.assertIs(is_steps(web, weight, row, value), False)
            for value in ([], ()):
                self.assertIs(is_steps(web, weight, row, value), not any(row))

    def test_noughts(self):
        for web in WEBS:
            zeros = [0] * web.places
            self.same(steps(web, zeros, zeros), [])
            self.same(corners(web, zeros, zeros), [zeros])
            self.assertIs(is_steps(web, zeros, zeros, [zeros]), False)

    def test_400_rows_and_more(self):
        five, much, zeros = Web(5, [(0, 1)]), [4, 2, 2, 2, 2], [0] * 5
        for action in OF_ROWS:
            self.told(TooMany, ROWS, action, five, zeros, much)
        for value in (None, [much], []):
            self.told(TooMany, ROWS, is_steps, five, zeros, much, value)
        four = Web(4, [(0, 1)])
        self.same(steps(four, [0, 0, 1, 2], [4, 4, 3, 3]), [[0, 0, 0, 3], [0, 0, 3, 0], [4, 4, 0, 0]])
        self.same(slope(five, zeros, much), (0, 1))

    def test_errors(self):
        for action, more in [(action, ()) for action in OF_ROWS + (slope,)] + [(is_steps, (None,))]:
            for value in NO_WEBS:
                self.told(InvalidWeb, {"value": value}, action, value, None, None, *more)
            for value in NO_WEIGHTS:
                self.told(InvalidWeight, {"value": value}, action, PAIR, value, None, *more)
            for value in no_rows(PAIR):
                self.told(InvalidRow, {"value": value}, action, PAIR, [0, 1], value, *more)
        self.told(InvalidWeight, {"value": None}, steps, row=None, weight=None, web=PAIR)

    def test_arguments_stay_and_new(self):
        weight, row, told = [0, 1], [2, 2], [[0, 2], [2, 0]]
        for action in OF_ROWS + (slope,):
            action(PAIR, weight, row)
        is_steps(PAIR, weight, row, told)
        self.same([weight, row, told], [[0, 1], [2, 2], [[0, 2], [2, 0]]])
        for action in (steepest, first_step, steps, corners):
            self.new_list(lambda: action(PAIR, weight, row))


class Corners(Case):
    def test_sums_of_first_steps(self):
        for web, _, row, weight in weighed(10, 80):
            told, total = steps(web, weight, row), [0] * web.places
            wanted = [total]
            for step in told:
                total = added(total, step)
                wanted.append(total)
            self.same(corners(web, weight, row), wanted)
            self.same(corners(row=tuple(row), weight=tuple(weight), web=web), wanted)
            self.assertEqual(wanted[-1], row)
            for corner in wanted:
                self.assertIs(is_sure(web, corner, row), True)

    def test_no_sure_part_above(self):
        for web, _, row, weight in weighed(12, 60):
            points = [(sum(corner), weighs(web, weight, corner)) for corner in corners(web, weight, row)]
            told = corners(web, weight, row)
            for part in sure_parts(web, row):
                across, high = sum(part), weighs(web, weight, part)
                if (across, high) in points:
                    self.assertEqual(part, told[points.index((across, high))])
                for (low, begun), (late, end) in zip(points, points[1:]):
                    if low <= across <= late:
                        self.assertLessEqual((high - begun) * (late - low), (end - begun) * (across - low))


if __name__ == "__main__":
    unittest.main()
