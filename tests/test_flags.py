"""[8a1] to [8a6]: sets, counts, meeting sets, the flags web, meeting papers."""

import itertools
import math
import random
import unittest

from sureparts.errors import InvalidLesser, InvalidMany, InvalidSets, InvalidSize
from sureparts.fillings import Filling, drawn_filling, nought_filling
from sureparts.flags import (flags_row, flags_web, is_meeting, is_meeting_paper, lesser_count, meeting_count,
                             meeting_paper, meeting_row, meetings, taken)
from sureparts.maps import lack
from sureparts.rows import form
from sureparts.sure import is_sure
from sureparts.tables import Table, unit
from sureparts.webs import Web
from tests.helpers import STRANGE, Case, drawn, otherwise, taken_off

SIZES = [1, 2, 3, 4]
CROSSED, NONE = ((0, 3), (1, 2), (2, 3)), ((), (), ())
NO_SIZES = STRANGE + [0, 5, -1, 10 ** 30, [], (), [2], (2,), "2"]
NO_SETS = STRANGE + [0, 1, [], (), NONE[:2], NONE + ((),), [(0,), (0,), (0,)], ([0], [0], [0]), ((0,), (0,), [0]),
                     ((0,), (0,), ()), ((0,), (0, 1), (0, 1)), ((0, 1), (0, 1), (1, 0)), ((0, 0), (0, 1), (0, 1)),
                     ((3,), (0,), (0,)), ((-1,), (0,), (0,)), ((True,), (0,), (0,)), ((0,), (False,), (0,)),
                     ((0,), (0,), (None,)), ((0,), (0,), ("0",)), ((0,), (0,), ((0,),)), ((0, 1, 2, 3),) * 3,
                     (0, 0, 0), "abc", {0: (), 1: (), 2: ()}, ((10 ** 30,), (0,), (0,)), (((0,), (0,), (0,)),)]


def all_sets(size, length):
    return list(itertools.product(list(itertools.combinations(range(size), length)), repeat=3))


def every_sets(sizes=SIZES):
    for size in sizes:
        for length in range(size + 1):
            for sets in all_sets(size, length):
                yield size, sets


def all_lesser(sets):
    length = len(sets[0])
    return [lesser for many in range(1, length + 1) for lesser in all_sets(length, many)]


def counted(size, sets):
    length = len(sets[0])
    return length * (size - length) - sum(size - length + at - position
                                          for told in sets for at, position in enumerate(told))


def counted_lesser(size, sets, lesser):
    left = size - len(sets[0])
    return len(lesser[0]) * left - sum(left + p - told[p] for told, chosen in zip(sets, lesser) for p in chosen)


def meets(size, sets, known):
    """Whether the sets are meeting, by the words of [8a3]."""
    if (size, sets) not in known:
        length = len(sets[0])
        known[(size, sets)] = counted(size, sets) >= 0 and all(
            counted_lesser(size, sets, lesser) >= 0 for lesser in all_lesser(sets)
            if len(lesser[0]) < length and meets(length, lesser, known))
    return known[(size, sets)]


def fills(filling, web, row):
    return isinstance(filling, Filling) and filling.web() == web and filling.row() == list(row)


def right(size, sets, paper):
    """Whether a tuple of the right kinds is a meeting paper, by the words of [8a5]."""
    web, row = flags_web(size), meeting_row(size, sets)
    if paper[0] == "sure":
        rows, near, far = (row, taken_off(flags_row(size), row)), paper[1], paper[2]
    else:
        _, lesser, near, far = paper
        if counted_lesser(size, sets, lesser) >= 0:
            return False
        part = meeting_row(size, taken(size, sets, lesser))
        rows = (part, taken_off(row, part))
    return fills(near, web, rows[0]) and fills(far, web, rows[1]) and lack(near, far) == 0


class Webs(Case):
    def test_webs_and_rows(self):
        self.assertTrue(flags_web(1) == Web(1, []))
        self.assertTrue(flags_web(2) == Web(4, [(0, 3), (1, 3), (2, 3)]))
        self.assertTrue(flags_web(3) == Web(7, [(0, 1), (1, 6), (2, 3), (3, 6), (4, 5), (5, 6)]))
        self.assertTrue(flags_web(size=4) == Web(10, [(0, 1), (1, 2), (2, 9), (3, 4), (4, 5), (5, 9), (6, 7), (7, 8),
                                                      (8, 9)]))
        self.same([flags_row(size) for size in SIZES],
                  [[1], [1, 1, 1, 2], [1, 2, 1, 2, 1, 2, 3], [1, 2, 3, 1, 2, 3, 1, 2, 3, 4]])
        self.same(flags_row(size=2), [1, 1, 1, 2])
        self.new_list(lambda: flags_row(2))

    def test_meeting_rows(self):
        for size, sets in every_sets():
            wanted = [sum(at <= place for at in told) for told in sets for place in range(size - 1)]
            wanted.append(len(sets[0]))
            self.same(meeting_row(size, sets), wanted)
            self.assertTrue(all(least <= most for least, most in zip(wanted, flags_row(size))))
        self.same(meeting_row(sets=CROSSED, size=4), [1, 1, 1, 0, 1, 2, 0, 0, 1, 2])
        self.same(meeting_row(3, NONE), [0] * 7)
        self.same(meeting_row(3, ((0, 1, 2),) * 3), flags_row(3))
        self.new_list(lambda: meeting_row(4, CROSSED))

    def test_forms_are_counts(self):
        for size, sets in every_sets():
            web, row = flags_web(size), meeting_row(size, sets)
            self.same(meeting_count(size, sets), form(web, row, taken_off(flags_row(size), row)))
            for lesser in all_lesser(sets)[::7]:
                part = meeting_row(size, taken(size, sets, lesser))
                self.same(lesser_count(size, sets, lesser), form(web, part, taken_off(flags_row(size), row)))


class Counts(Case):
    def test_by_definition(self):
        found = set()
        for size, sets in every_sets():
            wanted = counted(size, sets)
            found.add(min(max(wanted, -1), 1))
            self.same(meeting_count(size, sets), wanted)
            for lesser in all_lesser(sets)[::5]:
                self.same(lesser_count(size, sets, lesser), counted_lesser(size, sets, lesser))
                self.same(lesser_count(lesser=lesser, sets=sets, size=size), counted_lesser(size, sets, lesser))
            if sets[0]:
                self.same(lesser_count(size, sets, (tuple(range(len(sets[0]))),) * 3), wanted)
        self.assertEqual(found, {-1, 0, 1})
        self.same(meeting_count(sets=CROSSED, size=4), 0)
        self.same(meeting_count(2, ((0,), (0,), (0,))), -2)
        self.same(meeting_count(4, ((3,), (3,), (3,))), 3)

    def test_taken(self):
        for size, sets in every_sets([1, 2, 3]):
            for lesser in all_lesser(sets):
                told = taken(size, sets, lesser)
                self.same(told, tuple(tuple(positions[p] for p in chosen) for positions, chosen in zip(sets, lesser)))
                self.assertIn(told, all_sets(size, len(lesser[0])))
        self.same(taken(lesser=((0, 1), (0, 1), (0, 1)), sets=CROSSED, size=4), CROSSED)
        self.same(taken(4, CROSSED, ((1,), (0,), (1,))), ((3,), (1,), (3,)))

    def test_errors(self):
        for value in NO_SIZES:
            for action in (flags_web, flags_row):
                self.told(InvalidSize, {"value": value}, action, value)
                self.told(InvalidSize, {"value": value}, action, size=value)
            for action in (meeting_row, meeting_count, is_meeting, meetings, meeting_paper):
                self.told(InvalidSize, {"value": value}, action, value, None)
            for action in (taken, lesser_count, is_meeting_paper):
                self.told(InvalidSize, {"value": value}, action, value, None, None)
        for value in NO_SETS:
            for action in (meeting_row, meeting_count, is_meeting, meeting_paper):
                self.told(InvalidSets, {"value": value}, action, 3, value)
                self.told(InvalidSets, {"value": value}, action, sets=value, size=3)
            for action in (taken, lesser_count, is_meeting_paper):
                self.told(InvalidSets, {"value": value}, action, 3, value, None)
        sets = ((0, 1, 3), (0, 1, 2), (1, 2, 3))
        for value in NO_SETS + [NONE]:
            for action in (taken, lesser_count):
                self.told(InvalidLesser, {"value": value}, action, 4, sets, value)
                self.told(InvalidLesser, {"value": value}, action, lesser=value, sets=sets, size=4)
        for action in (taken, lesser_count):
            self.told(InvalidLesser, {"value": NONE}, action, 4, NONE, NONE)
            self.told(InvalidLesser, {"value": ((0,), (0,), (1,))}, action, 4, ((0,), (0,), (1,)), ((0,), (0,), (1,)))
        for value in STRANGE + [-1, 3, 10 ** 30, [], (), [1], "1"]:
            self.told(InvalidMany, {"value": value}, meetings, 2, value)
            self.told(InvalidMany, {"value": value}, meetings, many=value, size=2)
        self.told(InvalidSets, {"value": ((2,), (0,), (0,))}, is_meeting, 2, ((2,), (0,), (0,)))
        self.told(InvalidSets, {"value": ((0, 1),) * 3}, is_meeting, 1, ((0, 1),) * 3)


class Meeting(Case):
    def test_by_definition(self):
        known = {}
        for size, sets in every_sets():
            self.assertIs(is_meeting(size, sets), meets(size, sets, known))
            self.assertIs(is_meeting(sets=sets, size=size), meets(size, sets, known))

    def test_how_many(self):
        told = [[len(meetings(size, many)) for many in range(size + 1)] for size in SIZES]
        self.same(told, [[1, 1], [1, 4, 1], [1, 10, 10, 1], [1, 20, 50, 20, 1]])
        self.same([sum(many) for many in told], [2, 6, 22, 92])

    def test_lists(self):
        for size in SIZES:
            for many in range(size + 1):
                wanted = [sets for sets in all_sets(size, many) if is_meeting(size, sets)]
                self.assertEqual(wanted, sorted(wanted))
                self.same(meetings(size, many), wanted)
                self.same(meetings(many=many, size=size), wanted)
            self.same(meetings(size, 0), [NONE])
            self.same(meetings(size, size), [(tuple(range(size)),) * 3])
        self.new_list(lambda: meetings(2, 1))

    def test_exactly_if_sure_parts(self):
        seen = 0
        for size, sets in every_sets():
            row = meeting_row(size, sets)
            if math.prod(least + 1 for least in row) > 50:
                continue
            seen += 1
            self.assertIs(is_meeting(size, sets), is_sure(flags_web(size), row, flags_row(size)))
            for lesser in all_lesser(sets)[::5]:
                part = meeting_row(size, taken(size, sets, lesser))
                self.assertIs(is_meeting(len(sets[0]), lesser), is_sure(flags_web(size), part, row))
        self.assertGreater(seen, 50)

    def test_greater_positions_and_other_sequences(self):
        for size, sets in every_sets():
            if not is_meeting(size, sets):
                continue
            for other in itertools.permutations(sets):
                self.assertIs(is_meeting(size, other), True)
            for arm, at in itertools.product(range(3), range(len(sets[0]))):
                told = list(sets[arm])
                told[at] += 1
                if told[at] < size and told[at] not in sets[arm]:
                    self.assertIs(is_meeting(size, sets[:arm] + (tuple(told),) + sets[arm + 1:]), True)

    def test_for_example(self):
        self.assertIs(is_meeting(2, ((0,), (0,), (1,))), False)
        self.assertIs(is_meeting(2, ((0,), (1,), (1,))), True)
        # A count of 0, and a lesser one below.
        self.assertIs(is_meeting(4, CROSSED), False)
        self.same([meeting_count(4, CROSSED), lesser_count(4, CROSSED, ((0,), (1,), (1,)))], [0, -1])


class Papers(Case):
    def test_just_one_kind(self):
        for size, sets in every_sets():
            paper = meeting_paper(size, sets)
            self.assertIs(type(paper), tuple)
            self.assertEqual(paper[0], "sure" if is_meeting(size, sets) else "bar")
            self.assertTrue(right(size, sets, paper))
            self.assertIs(is_meeting_paper(size, sets, paper), True)
            if paper[0] == "bar":
                self.assertIs(type(paper[1]), tuple)
        named = meeting_paper(sets=CROSSED, size=4)
        self.assertIs(is_meeting_paper(value=named, sets=CROSSED, size=4), True)

    def test_exactly_the_right_ones(self):
        source = random.Random(1)
        found = []
        for size, sets in every_sets([2, 3]):
            web, row = flags_web(size), meeting_row(size, sets)
            papers = []
            for draw in (drawn, lambda source, web, row: drawn_filling(web, row, source.randrange(99))):
                papers.append(("sure", draw(source, web, row), draw(source, web, taken_off(flags_row(size), row))))
                for lesser in source.sample(all_lesser(sets), min(2, len(all_lesser(sets)))):
                    part = meeting_row(size, taken(size, sets, lesser))
                    papers.append(("bar", lesser, draw(source, web, part), draw(source, web, taken_off(row, part))))
                    papers.append(("bar", lesser, draw(source, web, row), draw(source, web, taken_off(row, row))))
            for paper in papers:
                wanted = right(size, sets, paper)
                found.append((paper[0], wanted))
                self.assertIs(is_meeting_paper(size, sets, paper), wanted)
                if wanted:
                    self.assertIs(is_meeting(size, sets), paper[0] == "sure")
        for kind in (("sure", True), ("sure", False), ("bar", True), ("bar", False)):
            self.assertGreater(found.count(kind), 10)

    def test_put_otherwise(self):
        for size, sets in [(4, CROSSED), (4, ((1, 3), (1, 3), (1, 3))), (2, ((0,), (0,), (0,))), (1, NONE),
                           (3, ((0, 1, 2),) * 3), (3, ((0, 1),) * 3)]:
            paper = meeting_paper(size, sets)
            for value in otherwise(paper):
                self.assertIs(is_meeting_paper(size, sets, value), False)
            for word in ("Sure", "lack", "bar" if paper[0] == "sure" else "sure"):
                self.assertIs(is_meeting_paper(size, sets, (word,) + paper[1:]), False)
            if paper[0] == "bar":
                for lesser in NO_SETS + [NONE, [list(told) for told in paper[1]], tuple(map(list, paper[1]))]:
                    self.assertIs(is_meeting_paper(size, sets, ("bar", lesser) + paper[2:]), False)
        paper = meeting_paper(2, ((0,), (1,), (1,)))
        self.assertIs(is_meeting_paper(2, ((1,), (0,), (1,)), paper), False)
        other = nought_filling(flags_web(2), [1, 0, 0, 1])
        self.assertIs(is_meeting_paper(2, ((0,), (1,), (1,)), ("sure", other, paper[2])), False)
        self.assertIs(is_meeting_paper(1, NONE, ("sure", Filling(Web(1, []), [0], []), Filling(Web(1, []), [1], []))),
                      True)
        self.assertIs(is_meeting_paper(1, NONE, ("sure", Filling(Web(1, []), [1], []), Filling(Web(1, []), [0], []))),
                      False)

    def test_papers_of_other_sets(self):
        paper = meeting_paper(4, CROSSED)
        self.assertIs(is_meeting_paper(4, CROSSED[::-1], paper), False)
        self.assertIs(is_meeting_paper(3, ((0, 1), (0, 1), (1, 2)), paper), False)
        one = Table(1, 1, [[1]])
        near = Filling(flags_web(2), [1, 0, 0, 1], [one, Table(1, 0, [[]]), Table(1, 0, [[]])])
        far = Filling(flags_web(2), [0, 1, 1, 1], [Table(1, 0, [[]]), one, one])
        self.assertIs(is_meeting_paper(2, ((0,), (1,), (1,)), ("sure", near, far)), True)
        self.assertIs(is_meeting_paper(2, ((0,), (1,), (1,)), ("sure", far, near)), False)
        self.assertTrue(unit(1) == one)


if __name__ == "__main__":
    unittest.main()
