"""[9a4]: claims, their contraries, and the papers of both."""

import random
import unittest

from sureparts.claims import contrary, is_claim, is_paper_of, is_true, paper_of, words
from sureparts.errors import InvalidClaim, TooMany
from sureparts.fillings import Filling, drawn_filling, nought_filling, simple_filling
from sureparts.lacks import is_sure_paper
from sureparts.maps import lack
from sureparts.rows import form, is_row
from sureparts.sure import is_sure, least_lack, sure_parts
from sureparts.tables import Table
from sureparts.unsplit import is_unsplit, is_unsplit_paper
from sureparts.webs import Web
from sureparts.weights import is_steady, is_weight_paper
from tests.helpers import JUNK, NO_WEBS, STRANGE, Case, below, drawn, drawn_row, no_rows, otherwise, rows_at, taken_off

PAIR, THREE = Web(2, [(0, 1), (0, 1)]), Web(2, [(0, 1)] * 3)
YES, NO = Table(1, 1, [[1]]), Table(1, 1, [[0]])
NEAR, FAR = Filling(PAIR, [1, 1], [YES, NO]), Filling(PAIR, [1, 1], [NO, YES])
BARE, LONE = nought_filling(PAIR, [0, 0]), nought_filling(PAIR, [1, 0])
ROWS, SIZE = {"what": "rows", "limit": 400}, {"what": "size", "limit": 200}
NUMBERS = {"what": "numbers", "limit": 400}
WORDS = [("sure", "barred"), ("unsplit", "split"), ("steady", "tilted"), ("within", "beyond")]
PAIRS = {word: pair for pair in WORDS for word in pair}


def fills(filling, web, row):
    return isinstance(filling, Filling) and filling.web() == web and filling.row() == list(row)


def holds(claim):
    """Whether the claim is true, by the functions of the stages before."""
    word, web, *things = claim
    if word in PAIRS["sure"]:
        told = is_sure(web, *things)
    elif word in PAIRS["split"]:
        told = is_unsplit(web, *things)
    elif word in PAIRS["steady"]:
        told = is_steady(web, *things)
    else:
        told = least_lack(web, *things[:2]) <= things[2]
    return told == (word == PAIRS[word][0])


def right(claim, paper):
    """Whether a tuple of the right kinds is a paper of the claim, by the words of [9a4]."""
    word, web, *things = claim
    if word == "within":
        return (len(paper) == 2 and fills(paper[0], web, things[0]) and fills(paper[1], web, things[1])
                and lack(*paper) <= things[2])
    if word == "beyond":
        if len(paper) != 3 or not is_row(web, paper[0]) or list(paper[0]) not in below(things[0]):
            return False
        part, near, far = paper
        return (fills(near, web, part) and fills(far, web, taken_off(things[0], part)) and lack(near, far) == 0
                and -form(web, part, things[1]) > things[2])
    judge = {"sure": is_sure_paper, "unsplit": is_unsplit_paper, "steady": is_weight_paper}[PAIRS[word][0]]
    first = {"sure": "sure", "unsplit": "brick", "steady": "square"}.get(word, "bar")
    return judge(web, *things, paper) and paper[0] == first


def drawn_claims(seed, often=60):
    """(web, source, claim): claims of all words, each with the same things in both of a pair."""
    for web, source, row in rows_at(seed, often):
        part = [source.randint(0, size) for size in row]
        weight = [source.randint(-2, 2) for _ in row]
        other = drawn_row(source, web)
        if sum(number * size for number, size in zip(weight, row)) != 0:
            weight = [0] * web.places
        things = {"sure": (part, row), "unsplit": (row,), "steady": (weight, row),
                  "within": (row, other, source.randint(0, 3))}
        for pair in WORDS:
            if pair[0] == "unsplit" and not any(row):
                continue
            for word in pair:
                yield web, source, (word, web) + things[pair[0]]


class Claims(Case):
    def test_words(self):
        self.same(words(), WORDS)
        self.new_list(words)

    def test_claims(self):
        for web, _, claim in drawn_claims(1):
            self.assertIs(is_claim(claim), True)
            self.assertIs(is_claim(value=claim), True)
            self.assertIs(is_claim(tuple(tuple(part) if isinstance(part, list) else part for part in claim)), True)
            self.assertIs(is_claim(list(claim)), False)
            for other in JUNK + STRANGE:
                for at in range(len(claim)):
                    if claim[0] in ("within", "beyond") and at == 4 and other in (0, 1) and type(other) is int:
                        continue
                    self.assertIs(is_claim(claim[:at] + (other,) + claim[at + 1:]), False)
            for value in (claim[:-1], claim + (0,), claim + (claim[-1],), claim[1:], (claim,), (claim[0],) + claim):
                self.assertIs(is_claim(value), False)

    def test_edges(self):
        for word in ("sure", "barred"):
            for row, whole, wanted in (([1, 1], [2, 2], True), ([2, 2], [2, 2], True), ([0, 0], [0, 0], True),
                                       ([3, 0], [2, 2], False), ([2, 3], [2, 2], False), ([6, 6], [6, 6], True),
                                       ([7, 0], [7, 0], False), ([1], [1, 1], False), ([1, 1], [1, 1, 1], False)):
                self.assertIs(is_claim((word, PAIR, row, whole)), wanted)
        for word in ("unsplit", "split"):
            for row, wanted in (([1, 0], True), ([0, 0], False), ((0, 0), False), ((0, 1), True), ([1], False)):
                self.assertIs(is_claim((word, PAIR, row)), wanted)
        for word in ("steady", "tilted"):
            for weight, row, wanted in (([1, -1], [2, 2], True), ([1, -1], [2, 1], False), ([0, 0], [2, 1], True),
                                        ([6, -6], [6, 6], True), ([7, -7], [1, 1], False), ([1, 1], [0, 0], True),
                                        ([1, 1], [1, 1], False), ([True, -1], [1, 1], False)):
                self.assertIs(is_claim((word, PAIR, weight, row)), wanted)
        for word in ("within", "beyond"):
            for many, wanted in ((0, True), (10 ** 29, True), (-1, False), (True, False), (False, False), (None, False),
                                 ("0", False), ([0], False)):
                self.assertIs(is_claim((word, PAIR, [1, 1], [6, 6], many)), wanted)
        for word in ("Sure", "SURE", "bar", "lack", "", "sure ", b"sure", None, ("sure",), ["sure"]):
            self.assertIs(is_claim((word, PAIR, [1, 1], [2, 2])), False)
        for value in NO_WEBS:
            self.assertIs(is_claim(("unsplit", value, [1, 1])), False)
        for value in no_rows(PAIR):
            self.assertIs(is_claim(("split", PAIR, value)), False)
            self.assertIs(is_claim(("within", PAIR, [1, 1], value, 0)), False)

    def test_errors(self):
        wrong = [("sure", PAIR, [3, 0], [2, 2]), ("unsplit", PAIR, [0, 0]), ("steady", PAIR, [1, 1], [1, 1]),
                 ["sure", PAIR, [1, 1], [2, 2]], ("sure", PAIR, [1, 1]), ("within", PAIR, [1, 1], [1, 1], True)]
        for value in wrong + JUNK + STRANGE:
            for action in (contrary, is_true, paper_of):
                self.told(InvalidClaim, {"value": value}, action, value)
                self.told(InvalidClaim, {"value": value}, action, claim=value)
            self.told(InvalidClaim, {"value": value}, is_paper_of, value, None)
            self.told(InvalidClaim, {"value": value}, is_paper_of, value=None, claim=value)
            self.assertIs(is_claim(value), False)

    def test_contraries(self):
        for _, _, claim in drawn_claims(2, often=10):
            told = contrary(claim)
            pair = PAIRS[claim[0]]
            self.assertEqual(told[0], pair[1] if claim[0] == pair[0] else pair[0])
            self.same(told[1:], claim[1:])
            self.assertIs(type(told), tuple)
            self.same(contrary(claim=told), claim)
            for one, other in zip(claim, told):
                self.assertFalse(isinstance(one, list) and one is other)
        self.same(contrary(("sure", PAIR, (1, 1), [2, 2])), ("barred", PAIR, (1, 1), [2, 2]))
        self.same(contrary(("tilted", PAIR, (1, -1), [2, 2])), ("steady", PAIR, (1, -1), [2, 2]))


class Truth(Case):
    def test_by_functions_and_just_one_of_both(self):
        found = set()
        for _, _, claim in drawn_claims(3):
            wanted = holds(claim)
            found.add((claim[0], wanted))
            self.assertIs(is_true(claim), wanted)
            self.assertIs(is_true(claim=contrary(claim)), not wanted)
        self.assertEqual(len(found), 16)

    def test_the_count_that_is_just_met(self):
        for web, source, row in rows_at(4, 40):
            other = drawn_row(source, web)
            least = least_lack(web, row, other)
            for many in range(least + 2):
                self.assertIs(is_true(("within", web, row, other, many)), many >= least)
                self.assertIs(is_true(("beyond", web, row, other, many)), many < least)
                self.assertEqual(paper_of(("within", web, row, other, many)) is None, many < least)
                self.assertEqual(paper_of(("beyond", web, row, other, many)) is None, many >= least)
            told = paper_of(("within", web, row, other, least))
            self.assertEqual(lack(*told), least)
            self.assertIs(is_paper_of(("within", web, row, other, least + 5), told), True)
            if least > 0:
                self.assertIs(is_paper_of(("within", web, row, other, least - 1), told), False)
                self.assertIs(is_paper_of(("beyond", web, row, other, least), paper_of(
                    ("beyond", web, row, other, least - 1))), False)

    def test_too_many(self):
        five, much = Web(5, [(0, 1)]), [4, 2, 2, 2, 2]
        zeros = [0] * 5
        for claim in (("sure", five, much, [6, 4, 4, 4, 4]), ("unsplit", five, much), ("steady", five, zeros, much),
                      ("within", five, much, zeros, 0)):
            for told in (claim, contrary(claim)):
                self.assertIs(is_claim(told), True)
                self.told(TooMany, ROWS, is_true, told)
                self.told(TooMany, ROWS, paper_of, told)
                self.assertIs(is_paper_of(told, None), False)
        self.assertIs(is_true(("sure", five, zeros, much)), True)
        self.assertIs(is_true(("within", five, zeros, much, 0)), True)
        four = Web(4, [])
        self.assertIs(is_true(("within", four, [4, 4, 3, 3], [6, 6, 6, 6], 0)), True)
        self.assertIs(is_true(("sure", four, [4, 4, 3, 3], [6, 6, 6, 6])), True)


class Papers(Case):
    def test_just_one_has_a_paper_and_it_is_judged_right(self):
        found = set()
        for _, _, claim in drawn_claims(5):
            paper = paper_of(claim)
            if not holds(claim):
                self.assertIs(paper, None)
                continue
            found.add(claim[0])
            self.assertIs(type(paper), tuple)
            self.assertTrue(right(claim, paper))
            self.assertIs(is_paper_of(claim, paper), True)
            self.assertIs(is_paper_of(value=paper_of(claim=claim), claim=claim), True)
            self.assertIs(is_paper_of(contrary(claim), paper), False)
            self.assertIs(is_paper_of(claim, list(paper)), False)
            if claim[0] == "beyond":
                self.assertIs(type(paper[0]), list)
                self.assertIs(is_paper_of(claim, (tuple(paper[0]),) + paper[1:]), True)
        self.assertEqual(found, set(PAIRS))

    def test_exactly_the_right_ones(self):
        source = random.Random(6)
        found = []
        for web, _, claim in drawn_claims(7, often=200):
            rows = [thing for thing in claim[2:] if isinstance(thing, list)]
            row = rows[0]
            papers = [paper for paper in (paper_of(claim), paper_of(contrary(claim))) if paper is not None]
            for part in below(row)[:4]:
                near, far = drawn(source, web, part), drawn(source, web, [abs(a - b) for a, b in zip(row, part)])
                papers += [(part, near, far), ("bar", part, near, far), (near, far)]
            papers += [(drawn(source, web, row), drawn(source, web, rows[-1])),
                       (drawn_filling(web, row, 1), drawn_filling(web, rows[-1], 2)),
                       ("sure", drawn(source, web, row), drawn(source, web, rows[-1]))] if is_row(web, row) else []
            for paper in papers:
                wanted = right(claim, paper)
                found.append((claim[0], wanted))
                self.assertIs(is_paper_of(claim, paper), wanted)
                if wanted:
                    self.assertIs(is_true(claim), True)
        for word in PAIRS:
            for wanted in (True, False):
                self.assertGreater(found.count((word, wanted)), 3, (word, wanted))

    def test_put_otherwise(self):
        for claim in (("sure", PAIR, [1, 1], [2, 2]), ("barred", PAIR, [1, 0], [2, 2]), ("unsplit", PAIR, [1, 1]),
                      ("split", PAIR, [2, 2]), ("steady", PAIR, [1, -1], [2, 2]), ("tilted", PAIR, [-1, 1], [2, 2]),
                      ("within", PAIR, [1, 1], [1, 1], 0), ("beyond", PAIR, [1, 0], [1, 2], 2)):
            paper = paper_of(claim)
            self.assertIs(is_paper_of(claim, paper), True)
            for value in otherwise(paper):
                self.assertIs(is_paper_of(claim, value), False)
            for word in ("sure", "bar", "brick", "square", "lack"):
                if paper[0] != word:
                    self.assertIs(is_paper_of(claim, (word,) + paper[1:]), False)
                    self.assertIs(is_paper_of(claim, (word,) + paper), False)

    def test_for_example(self):
        self.assertIs(is_paper_of(("within", PAIR, [1, 1], [1, 1], 0), (NEAR, NEAR)), False)
        self.assertIs(is_paper_of(("within", PAIR, [1, 1], [1, 1], 1), (NEAR, NEAR)), True)
        self.assertIs(is_paper_of(("within", PAIR, [1, 1], [1, 1], 0), (FAR, NEAR)), True)
        self.assertIs(is_paper_of(("beyond", PAIR, [1, 1], [1, 1], 0), (FAR, NEAR)), False)
        # It is the contrary of the form that is to be above the count, not the form.
        self.assertIs(is_paper_of(("beyond", PAIR, [1, 0], [1, 2], 2), ((1, 0), LONE, BARE)), True)
        self.assertIs(is_paper_of(("beyond", PAIR, [1, 0], [1, 2], 2), ([0, 0], BARE, LONE)), False)
        self.assertIs(is_paper_of(("beyond", PAIR, [0, 1], [0, 2], 0),
                                  ([0, 1], simple_filling(PAIR, 1), BARE)), False)
        self.same(sure_parts(PAIR, [1, 0]), [[0, 0], [1, 0]])
        # 1, 0 is no sure part of 1, 1: near it no filling lacks nothing.
        self.assertIs(is_paper_of(("beyond", PAIR, [1, 1], [0, 1], 0), ([1, 0], LONE, simple_filling(PAIR, 1))), False)

    def test_too_many_of_judges(self):
        nine = Web(2, [(0, 1)] * 9)
        row = [5, 5]
        for value in JUNK + [("brick", drawn_filling(nine, row, 1)), (NEAR, FAR)]:
            for claim in (("unsplit", nine, row), ("split", nine, row), ("within", nine, row, row, 999)):
                self.told(TooMany, SIZE, is_paper_of, claim, value)
            for claim in (("sure", nine, row, [6, 6]), ("barred", nine, row, [6, 6]), ("steady", nine, [1, -1], row),
                          ("tilted", nine, [1, -1], row), ("beyond", nine, row, row, 0)):
                self.assertIs(is_paper_of(claim, value), False)
        self.told(TooMany, SIZE, paper_of, ("unsplit", nine, row))
        self.assertIs(paper_of(("split", nine, row)), None)
        self.told(TooMany, SIZE, paper_of, ("within", nine, row, row, 999))
        self.assertIs(paper_of(("within", nine, row, row, 0)), None)
        told = paper_of(("beyond", nine, row, row, 0))
        self.assertIs(is_paper_of(("beyond", nine, row, row, 0), told), True)
        self.assertIs(paper_of(("beyond", nine, row, row, 999)), None)
        for claim in (("barred", nine, row, [6, 6]), ("steady", nine, [0, 0], row), ("sure", nine, [0, 5], row)):
            self.assertIs(is_paper_of(claim, paper_of(claim)), True)
        eight = Web(2, [(0, 1)] * 8)
        self.assertIs(is_paper_of(("unsplit", eight, row), paper_of(("unsplit", eight, row))), True)

    def test_too_many_numbers(self):
        twelve = Web(2, [(0, 1)] * 12)
        self.told(TooMany, NUMBERS, paper_of, ("steady", twelve, [6, -6], [1, 1]))
        self.assertIs(paper_of(("tilted", twelve, [6, -6], [1, 1])), None)
        self.assertIs(paper_of(("steady", twelve, [-6, 6], [1, 1])), None)
        told = paper_of(("tilted", twelve, [-6, 6], [1, 1]))
        self.assertIs(is_paper_of(("tilted", twelve, [-6, 6], [1, 1]), told), True)

    def test_arguments_stay_and_new(self):
        row, whole = [1, 0], [1, 2]
        for claim in (("beyond", PAIR, row, whole, 2), ("sure", PAIR, row, whole), ("barred", PAIR, row, whole)):
            is_claim(claim)
            contrary(claim)[2].append(1)
            is_true(claim)
            paper = paper_of(claim)
            is_paper_of(claim, paper)
            self.same([row, whole], [[1, 0], [1, 2]])
        paper_of(("beyond", PAIR, row, whole, 2))[0].append(7)
        self.assertEqual(len(paper_of(("beyond", PAIR, row, whole, 2))[0]), 2)
        self.same(row, [1, 0])


if __name__ == "__main__":
    unittest.main()
