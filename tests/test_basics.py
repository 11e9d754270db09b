"""[2], [5]: INTEGERS, COUNTS, rests, inverses."""

import unittest

from sureparts.basics import inverse, is_count, is_integer, is_rest
from sureparts.errors import InvalidRest
from tests.helpers import PRIME, STRANGE, Case


class Basics(Case):
    def test_integers(self):
        for value in [0, 1, -1, 10006, 10007, -10 ** 30, 10 ** 30]:
            self.assertIs(is_integer(value), True)
            self.assertIs(is_integer(value=value), True)
        for value in STRANGE + [[], (), [1], (1,)]:
            self.assertIs(is_integer(value), False)

    def test_counts(self):
        for value in [0, 1, 10006, 10007, 10 ** 30]:
            self.assertIs(is_count(value), True)
            self.assertIs(is_count(value=value), True)
        for value in STRANGE + [-1, -10 ** 30, [], (), [1], (1,)]:
            self.assertIs(is_count(value), False)

    def test_rests(self):
        for value in [0, 1, 5003, 10006]:
            self.assertIs(is_rest(value), True)
            self.assertIs(is_rest(value=value), True)
        for value in STRANGE + [-1, 10007, 10 ** 30, -10 ** 30, [], (), [1], (1,)]:
            self.assertIs(is_rest(value), False)

    def test_inverses_of_all_rests(self):
        self.assertIsNone(inverse(0))
        self.assertEqual(inverse(rest=2), 5004)
        for rest in range(1, PRIME):
            other = inverse(rest)
            self.assertIs(is_rest(other), True)
            self.assertEqual(rest * other % PRIME, 1)

    def test_inverse_of_no_rest(self):
        for value in STRANGE + [-1, 10007, 10 ** 30, [1], (1,)]:
            self.told(InvalidRest, {"value": value}, inverse, value)
            self.told(InvalidRest, {"value": value}, inverse, rest=value)


if __name__ == "__main__":
    unittest.main()
