"""[9b] attach and fits: papers that are kept with labels."""

import unittest

from sureparts.claims import contrary, is_claim, is_paper_of, paper_of
from sureparts.desk import Desk
from sureparts.errors import InvalidPaper, UnknownLabel
from sureparts.fillings import drawn_filling, nought_filling
from sureparts.lacks import sure_paper
from sureparts.webs import Web
from tests.desk_model import drawn_command
from tests.helpers import JUNK, STRANGE, Case, otherwise
from tests.test_anew import drawn_desks, outcome

START = ["web w 2 0>1,0>1", "row a w 1,1", "row b w 2,2", "row c w 1,0", "weight t w 1,-1", "weight s w -1,1",
         "claim k sure a b", "claim n sure c b", "claim u unsplit b"]
PAIR = Web(2, [(0, 1), (0, 1)])


class Attached(Case):
    def setUp(self):
        self.desk = Desk()
        self.desk.do_all(*START)
        self.yes, self.no = sure_paper(PAIR, [1, 1], [2, 2]), sure_paper(PAIR, [1, 0], [2, 2])

    def test_of_the_claim_and_of_its_contrary(self):
        self.assertIs(self.desk.fits("k"), False)
        self.assertIs(self.desk.attach("k", self.yes), None)
        self.assertIs(self.desk.fits("k"), True)
        self.assertIs(self.desk.fits(label="n"), False)
        self.assertIs(self.desk.attach(paper=self.no, label="n"), None)
        self.assertEqual([self.desk.fits(label) for label in "knu"], [True, True, False])
        self.desk.attach("u", paper_of(("split", PAIR, [2, 2])))
        self.assertIs(self.desk.fits("u"), True)

    def test_each_word(self):
        self.desk.do("row d w 1,2")
        for told in ("sure a b", "barred c b", "unsplit a", "split b", "steady t b", "tilted s b", "within c d 3",
                     "beyond c d 2"):
            for line in (told, told.replace(told.split()[0], contrary_word(told.split()[0]))):
                self.desk.do("claim x " + line)
                claim = self.desk.claim_of("x")
                paper = paper_of(claim) or paper_of(contrary(claim))
                self.desk.attach("x", paper)
                self.assertIs(self.desk.fits("x"), True)
                for value in otherwise(paper):
                    self.told(InvalidPaper, {"value": value}, self.desk.attach, "x", value)
                self.assertIs(self.desk.fits("x"), True)
                self.desk.do("forget x")

    def test_errors(self):
        for value in STRANGE + ["a", "x", "K", 0, [], ["k"], ("k",), PAIR]:
            self.told(UnknownLabel, {"value": value}, self.desk.attach, value, None)
            self.told(UnknownLabel, {"value": value}, self.desk.fits, value)
            self.told(UnknownLabel, {"value": value}, self.desk.fits, label=value)
        for value in JUNK + STRANGE + [self.no, list(self.yes), self.yes[:2], ("bar",) + self.yes[1:], (self.yes,)]:
            self.told(InvalidPaper, {"value": value}, self.desk.attach, "k", value)
            self.told(InvalidPaper, {"value": value}, self.desk.attach, paper=value, label="k")
        self.assertIs(self.desk.fits("k"), False)

    def test_in_the_place_of_another_one(self):
        self.desk.attach("k", self.yes)
        self.desk.do("size a 0 0")
        self.assertIs(self.desk.fits("k"), False)
        self.told(InvalidPaper, {"value": self.yes}, self.desk.attach, "k", self.yes)
        self.desk.do("size a 0 1")
        self.assertIs(self.desk.fits("k"), True)
        self.desk.do("size a 0 0")
        self.desk.attach("k", sure_paper(PAIR, [0, 1], [2, 2]))
        self.assertIs(self.desk.fits("k"), True)
        self.desk.do("size a 0 1")
        self.assertIs(self.desk.fits("k"), False)

    def test_it_stays(self):
        self.desk.attach("k", self.yes)
        kept = self.desk.lines()
        for command in ("size a 0 0", "undo", "redo", "undo", "drop b", "row b w 2,1", "undo", "undo", "undo",
                        "forget k", "claim k sure a b", "undo", "undo", "undo", "undo", "undo"):
            outcome(self.desk.do, command)
        while len(self.desk):
            self.desk.do("undo")
        self.told(UnknownLabel, {"value": "k"}, self.desk.fits, "k")
        self.desk.do_all(*kept)
        self.assertIs(self.desk.fits("k"), True)
        self.desk.do_all("forget k", "claim k sure a b")
        self.assertIs(self.desk.fits("k"), True)
        twin = self.desk.copy()
        self.assertIs(twin.fits("k"), True)
        self.assertIs(Desk.again(self.desk.lines()).fits("k"), False)
        twin.do("forget k")
        self.assertIs(self.desk.fits("k"), True)

    def test_no_deed(self):
        self.desk.do_all("drop t", "undo")
        lines = self.desk.lines()
        self.desk.attach("k", self.yes)
        self.same(self.desk.lines(), lines)
        self.same(self.desk.do("redo"), "drop t")
        self.assertIs(self.desk.fits("k"), True)

    def test_other_words(self):
        self.desk.attach("k", self.yes)
        for told in ("barred a b", "sure a d", "sure d b", "within a a 0", "unsplit a"):
            self.desk.do_all("forget k", "copy d a" if told == "sure d b" else "copy d b", "claim k " + told)
            self.assertIs(is_claim(self.desk.claim_of("k")), True)
            self.assertIs(self.desk.fits("k"), False)
            self.desk.do_all("undo", "undo", "undo")
            self.assertIs(self.desk.fits("k"), True)

    def test_other_side(self):
        # A paper of the claim is none any more when its contrary is true, and comes to fit again.
        self.desk.do("claim s sure a b")
        self.desk.attach("s", self.yes)
        self.desk.do("arrow w 0 1")
        self.assertIs(self.desk.fits("s"), False)
        bar = sure_paper(self.desk["w"], [1, 1], [2, 2])
        self.assertEqual(bar[0], "bar")
        self.desk.do("strike w 2")
        self.assertIs(self.desk.fits("s"), True)
        self.told(InvalidPaper, {"value": bar}, self.desk.attach, "s", bar)
        self.desk.do("undo")
        self.desk.attach("s", bar)
        self.assertIs(self.desk.fits("s"), True)
        self.desk.do("redo")
        self.assertIs(self.desk.fits("s"), False)

    def test_just_while_it_is_one(self):
        self.desk.do_all("row d w 1,2", "claim x beyond c d 0")
        self.desk.attach("x", ([1, 0], nought_filling(PAIR, [1, 0]), nought_filling(PAIR, [0, 0])))
        seen = []
        for size in (2, 1, 0, 1, 0, 2):
            self.desk.do(f"size d 1 {size}")
            seen.append((self.desk.do("state x"), self.desk.fits("x")))
        self.assertEqual(seen, [("true", True), ("true", True), ("false", False), ("true", True), ("false", False),
                                ("true", True)])

    def test_gone(self):
        self.desk.attach("k", self.yes)
        self.desk.do("drop a")
        self.assertIs(self.desk.fits("k"), False)
        self.told(InvalidPaper, {"value": self.yes}, self.desk.attach, "k", self.yes)
        self.desk.do("undo")
        self.assertIs(self.desk.fits("k"), True)
        self.desk.do_all("web v 5 0>1", "row d v 4,2,2,2,2", "claim x split d")
        self.same(self.desk.do("state x"), "gone")
        self.told(InvalidPaper, {"value": self.yes}, self.desk.attach, "x", self.yes)
        self.assertIs(self.desk.fits("x"), False)

    def test_gone_by_too_many_with_a_right_paper(self):
        self.desk.do_all("web v 5 0>1", "row d v 4,2,2,2,2", "row e v 0,0,0,0,0", "claim x sure e d",
                         "claim y sure d d")
        web = self.desk["v"]
        paper = ("sure", nought_filling(web, [4, 2, 2, 2, 2]), nought_filling(web, [0] * 5))
        self.assertIs(is_paper_of(("sure", web, [4, 2, 2, 2, 2], [4, 2, 2, 2, 2]), paper), True)
        self.same(self.desk.do("state y"), "gone")
        self.told(InvalidPaper, {"value": paper}, self.desk.attach, "y", paper)
        self.desk.attach("x", sure_paper(web, [0] * 5, [4, 2, 2, 2, 2]))
        self.assertIs(self.desk.fits("x"), True)

    def test_where_a_judge_would_tell_too_many(self):
        self.desk.do_all("drop b", "drop c", "web v 2 " + ",".join(["0>1"] * 9), "row d v 5,5", "claim x unsplit d",
                         "claim y within d d 999", "claim z beyond d d 0")
        web = self.desk["v"]
        brick, pair = ("brick", drawn_filling(web, [5, 5], 1)), (drawn_filling(web, [5, 5], 1),) * 2
        for label, paper in (("x", brick), ("y", pair), ("z", pair)):
            self.same(self.desk.do("state " + label), "true")
            self.told(InvalidPaper, {"value": paper}, self.desk.attach, label, paper)
        # The contrary of y, the claim z with its COUNT, has a judge that tells no TooMany.
        self.desk.attach("z", paper_of(("beyond", web, [5, 5], [5, 5], 0)))
        self.assertIs(self.desk.fits("z"), True)
        self.desk.do_all("forget y", "claim y within d d 0")
        self.same(self.desk.do("state y"), "false")
        self.desk.attach("y", paper_of(("beyond", web, [5, 5], [5, 5], 0)))
        self.assertIs(self.desk.fits("y"), True)
        # A paper that fits, until its judge would tell too many.
        self.desk.do_all("forget x", "strike v 8", "claim x unsplit d")
        paper = paper_of(self.desk.claim_of("x"))
        self.desk.attach("x", paper)
        self.assertIs(self.desk.fits("x"), True)
        self.desk.do("arrow v 0 1")
        self.assertIs(self.desk.fits("x"), False)

    def test_papers_are_copied(self):
        self.desk.do("claim x steady t b")
        paper = paper_of(("steady", PAIR, [1, -1], [2, 2]))
        self.desk.attach("x", paper)
        paper[2].append(1)
        paper[2][0] = None
        self.assertIs(self.desk.fits("x"), True)
        row = [1, 0]
        bar = ("bar", row) + self.no[2:]
        self.desk.attach("n", bar)
        row[0] = 7
        self.assertIs(self.desk.fits("n"), True)
        self.desk.claim_of("n")[2].append(1)
        self.assertIs(self.desk.fits("n"), True)

    def test_drawn(self):
        fitting = set()
        for source, desk, model in drawn_desks(7, 25, 25):
            kept = {}
            for label in desk.labels:
                claim = desk.claim_of(label)
                if claim is not None:
                    side = "same" if paper_of(claim) is not None else "contrary"
                    paper = paper_of(claim) or paper_of(contrary(claim))
                    desk.attach(label, paper)
                    kept[label] = (desk.do("claimed " + label), side, paper)
            for _ in range(25):
                outcome(desk.do, drawn_command(source, model))
                for label in desk.labels:
                    words, side, paper = kept.get(label, (None, None, None))
                    claim = desk.claim_of(label)
                    wanted = claim is not None and words == desk.do("claimed " + label) and is_paper_of(
                        claim if side == "same" else contrary(claim), paper)
                    fitting.add((side, wanted))
                    self.assertIs(desk.fits(label), wanted)
        self.assertEqual(len(fitting), 5)


def contrary_word(word):
    pairs = ["sure", "barred", "unsplit", "split", "steady", "tilted", "within", "beyond"]
    return pairs[pairs.index(word) ^ 1]


if __name__ == "__main__":
    unittest.main()
