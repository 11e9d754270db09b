"""What several test files share: wrong values, drawn things, and how an error is looked at."""

import copy
import itertools
import random
import unittest

from sureparts.fillings import Filling
from sureparts.tables import Table
from sureparts.webs import Web

PRIME = 10007

# Values of other kinds, none of which is a number, a list, a tuple or an object of the package.
STRANGE = [None, True, False, "", "1", "[]", b"", {}, {0: 0}, set(), object(), range(2), len]

WEBS = [
    Web(1, []),
    Web(2, [(0, 1)]),
    Web(2, [(1, 0), (1, 0)]),
    Web(3, [(0, 1), (1, 2), (0, 2)]),
    Web(4, [(0, 3), (1, 3), (2, 3)]),
    Web(4, [(3, 1), (3, 1), (1, 0), (0, 2), (1, 2)]),
    Web(3, []),
]


class Case(unittest.TestCase):
    """A TestCase that looks at an error's class and at all of its attributes."""

    def told(self, kind, attributes, action, *passed, **named):
        with self.assertRaises(kind) as caught:
            action(*passed, **named)
        error = caught.exception
        self.assertIs(type(error), kind)
        self.assertEqual(set(vars(error)), set(attributes))
        for name, value in attributes.items():
            self.assertTrue(alike(getattr(error, name), value))

    def same(self, got, wanted):
        """Equal, and of the same kinds: a list isn't a tuple, True isn't 1."""
        self.assertEqual(got, wanted)
        self.assertTrue(alike(got, wanted))

    def new_list(self, told):
        """What the function returns is a new list at each call, with new lists in it."""
        first = told()
        self.assertIs(type(first), list)
        kept = copy.deepcopy(first)
        for inner in first:
            if type(inner) is list:
                inner.append(99)
        first.append(99)
        self.same(told(), kept)


def alike(one, other):
    """Whether both are equal, and of the same kinds, also what is in them."""
    if type(one) is not type(other):
        return False
    if isinstance(one, (list, tuple)):
        return len(one) == len(other) and all(alike(a, b) for a, b in zip(one, other))
    return one == other


def drawn_table(source, tall, wide):
    """A table of rests, among them many 0."""
    rows = [[source.choice([0, 1, source.randrange(PRIME)]) for _ in range(wide)] for _ in range(tall)]
    return Table(tall, wide, rows)


def drawn_row(source, web, most=2):
    return [source.randint(0, most) for _ in range(web.places)]


def drawn(source, web, row):
    """A filling of the row, with many rests 0."""
    arrows = web.arrows()
    return Filling(web, row, [drawn_table(source, row[head], row[tail]) for tail, head in arrows])


def undone_table(source, many):
    """A square table that can be undone: ones on the diagonal of two triangles, multiplied, rows exchanged."""
    low = [[1 if i == j else source.randrange(PRIME) if j < i else 0 for j in range(many)] for i in range(many)]
    high = [[1 if i == j else source.randrange(PRIME) if j > i else 0 for j in range(many)] for i in range(many)]
    rows = product(low, high, many)
    source.shuffle(rows)
    return Table(many, many, rows)


def product(rows, other, wide):
    """Rows times other rows, by the definition; the other ones are so wide."""
    out = [[0] * wide for _ in rows]
    for i, row in enumerate(rows):
        for j in range(wide):
            for k, rest in enumerate(row):
                out[i][j] = (out[i][j] + rest * other[k][j]) % PRIME
    return out


def pairs(seed, webs=None, most=2, often=4):
    """Drawn pairs of fillings of one web: (web, source, filling, other)."""
    source = random.Random(seed)
    for web in WEBS if webs is None else webs:
        for _ in range(often):
            yield (web, source, drawn(source, web, drawn_row(source, web, most)),
                   drawn(source, web, drawn_row(source, web, most)))


def drawn_web(source, most=4, arrows=5):
    """A web of a few places, its arrows drawn along a drawn sequence of the places."""
    places = source.randint(1, most)
    order = list(range(places))
    source.shuffle(order)
    told = []
    for _ in range(source.randint(0, arrows) if places > 1 else 0):
        tail, head = sorted(source.sample(range(places), 2))
        told.append((order[tail], order[head]))
    return Web(places, told)


def rows_at(seed, often, most=3, arrows=5, sizes=2):
    """Drawn webs, each with a drawn row: (web, source, row)."""
    source = random.Random(seed)
    for _ in range(often):
        web = drawn_web(source, most, arrows)
        yield web, source, drawn_row(source, web, sizes)


def below(row):
    """All rows at most the row, lists, sorted."""
    return [list(part) for part in itertools.product(*[range(size + 1) for size in row])]


def added(row, other):
    return [size + more for size, more in zip(row, other)]


def taken_off(row, other):
    return [size - less for size, less in zip(row, other)]


NO_WEBS = STRANGE + [3, [], (), (2, [(0, 1)]), [(0, 1)], Table(0, 0, [])]


def no_rows(web):
    """Values that are no rows of the web, a web with an arrow at least or with two places."""
    zeros = [0] * web.places
    wrong = [zeros[1:], zeros + [0], [7] + zeros[1:], zeros[1:] + [-1], [True] + zeros[1:], zeros[1:] + [False],
             [None] + zeros[1:], [[0]] + zeros[1:], ["0"] + zeros[1:], [10 ** 30] + zeros[1:], "0" * web.places,
             {place: 0 for place in range(web.places)}]
    return STRANGE + [0, 1, [], (), web] + wrong


JUNK = [None, True, False, 0, 1, -1, "", "x", b"", [], (), {}, [None], ((),), [[0]], object(), {0: 0}, [True], "bar"]


def otherwise(paper):
    """Values that are no papers: the paper, a tuple of a word and more, with one part left out, more, or junk."""
    yield from JUNK
    yield from STRANGE
    yield list(paper)
    yield paper[:-1]
    yield paper[1:]
    yield paper + (None,)
    yield paper + (None, None)
    yield paper + paper[-1:]
    yield (paper,)
    yield [paper]
    for at in range(len(paper)):
        for junk in [junk for junk in JUNK if at > 0 or junk != paper[0]]:
            yield paper[:at] + (junk,) + paper[at + 1:]
        yield paper[:at] + ((paper[at],),) + paper[at + 1:]
        yield paper[:at] + ([paper[at]],) + paper[at + 1:]
