"""What several test files share: wrong values, drawn things, and how an error is looked at."""

import copy
import random
import unittest

from sureparts.fillings import Filling
from sureparts.tables import Table
from sureparts.webs import Web

PRIME = 10007

# Values of other kinds, none of which is a number, a list, a tuple or an object of the package.
STRANGE = [None, True, False, "", "1", "[]", b"", {}, {0: 0}, set(), object(), range(2), len]

WEBS = [
    Web(1, []),
    Web(2, [(0, 1)]),
    Web(2, [(1, 0), (1, 0)]),
    Web(3, [(0, 1), (1, 2), (0, 2)]),
    Web(4, [(0, 3), (1, 3), (2, 3)]),
    Web(4, [(3, 1), (3, 1), (1, 0), (0, 2), (1, 2)]),
    Web(3, []),
]


class Case(unittest.TestCase):
    """A TestCase that looks at an error's class and at all of its attributes."""

    def told(self, kind, attributes, action, *passed, **named):
        with self.assertRaises(kind) as caught:
            action(*passed, **named)
        error = caught.exception
        self.assertIs(type(error), kind)
        self.assertEqual(set(vars(error)), set(attributes))
        for name, value in attributes.items():
            self.assertTrue(alike(getattr(error, name), value))

    def same(self, got, wanted):
        """Equal, and of the same kinds: a list isn't a tuple, True isn't 1."""
        self.assertEqual(got, wanted)
        self.assertTrue(alike(got, wanted))

    def new_list(self, told):
        """What the function returns is a new list at each call, with new lists in it."""
        first = told()
        self.assertIs(type(first), list)
        kept = copy.deepcopy(first)
        for inner in first:
            if type(inner) is list:
                inner.append(99)
        first.append(99)
        self.same(told(), kept)


def alike(one, other):
    """Whether both are equal, and of the same kinds, also what is in them."""
    if type(one) is not type(other):
        return False
    if isinstance(one, (list, tuple)):
        return len(one) == len(other) and all(alike(a, b) for a, b in zip(one, other))
    return one == other


def drawn_table(source, tall, wide):
    """A table of rests, among them many 0."""
    rows = [[source.choice([0, 1, source.randrange(PRIME)]) for _ in range(wide)] for _ in range(tall)]
    return Table(tall, wide, rows)


def drawn_row(source, web, most=2):
    return [source.randint(0, most) for _ in range(web.places)]


def drawn(source, web, row):
    """A filling of the row, with many rests 0."""
    arrows = web.arrows()
    return Filling(web, row, [drawn_table(source, row[head], row[tail]) for tail, head in arrows])


def undone_table(source, many):
    """A square table that can be undone: ones on the diagonal of two triangles, multiplied, rows exchanged."""
    low = [[1 if i == j else source.randrange(PRIME) if j < i else 0 for j in range(many)] for i in range(many)]
    high = [[1 if i == j else source.randrange(PRIME) if j > i else 0 for j in range(many)] for i in range(many)]
    rows = product(low, high, many)
    source.shuffle(rows)
    return Table(many, many, rows)


def product(rows, other, wide):
    """Rows times other rows, by the definition; the other ones are so wide."""
    out = [[0] * wide for _ in rows]
    for i, row in enumerate(rows):
        for j in range(wide):
            for k, rest in enumerate(row):
                out[i][j] = (out[i][j] + rest * other[k][j]) % PRIME
    return out


def pairs(seed, webs=None, most=2, often=4):
    """Drawn pairs of fillings of one web: (web, source, filling, other)."""
    source = random.Random(seed)
    for web in WEBS if webs is None else webs:
        for _ in range(often):
            yield (web, source, drawn(source, web, drawn_row(source, web, most)),
                   drawn(source, web, drawn_row(source, web, most)))
