"""[9b1] to [9b4]: a desk: each row of both tables of commands, with each error; names, labels, limits."""

import unittest

from sureparts.desk import Desk
from sureparts.errors import (InvalidArrow, InvalidArrows, InvalidClaim, InvalidCommand, InvalidEntry, InvalidMany,
                              InvalidPlace, InvalidPlaces, InvalidRest, InvalidRow, InvalidWeight, IsUsed, LabelTaken,
                              NameTaken, NothingToRedo, NothingToUndo, TooMany, UnknownLabel, UnknownName, UnlikeWebs)
from sureparts.fillings import Filling, both, drawn_filling, nought_filling
from sureparts.maps import lack, maps_many
from sureparts.tables import Table, nought
from sureparts.webs import Web
from tests.helpers import STRANGE, Case

PAIR = Web(2, [(0, 1), (0, 1)])
START = ["web w 2 0>1,0>1", "row a w 1,1", "row b w 2,2", "weight t w 1,-1", "filling f w 1,1 5", "filling g w 2,1 0",
         "web v 1 -", "row z v 3", "claim k sure a b", "claim u unsplit b"]
ALL = "a b f g t v w z"


def whole(desk):
    """All that a desk tells, but papers."""
    told = {name: (desk.do("of " + name), desk.do("show " + name)) for name in desk.names}
    claims = {label: (desk.do("claimed " + label), desk.do("state " + label)) for label in desk.labels}
    twin, back, again = desk.copy(), [], []
    while len(twin):
        back.append(twin.do("undo"))
    twin = desk.copy()
    try:
        while True:
            again.append(twin.do("redo"))
    except NothingToRedo:
        pass
    return told, claims, desk.lines(), back, again, desk.names, desk.labels, len(desk), desk.do("states")


class DeskCase(Case):
    def setUp(self):
        self.desk = Desk()
        self.desk.do_all(*START)

    def fails(self, command, kind, **attributes):
        """The command fails so, by each way to do it, and changes nothing."""
        before = whole(self.desk)
        self.told(kind, attributes, self.desk.do, command)
        self.told(kind, attributes, self.desk.do, command=command)
        self.told(kind, attributes, self.desk, command)
        self.assertEqual(whole(self.desk), before)

    def answers(self, command, wanted):
        self.same(self.desk.do(command), wanted)


class Kept(DeskCase):
    def test_none_at_first(self):
        desk = Desk()
        self.same([desk.names, desk.labels, desk.lines(), len(desk)], [[], [], [], 0])
        self.same([desk.do(line) for line in ("names", "states")], ["-", "-"])

    def test_names_and_labels(self):
        self.same(self.desk.names, ALL.split())
        self.same(self.desk.labels, ["k", "u"])
        self.same(self.desk.lines(), START)
        self.same(len(self.desk), 10)
        for told in (lambda: self.desk.names, lambda: self.desk.labels, self.desk.lines):
            self.new_list(told)

    def test_in_and_by_name(self):
        for name in ALL.split():
            self.assertIs(name in self.desk, True)
        for value in STRANGE + ["k", "u", "A", "aa", 0, [], ("a",), ["a"], PAIR]:
            self.assertIs(value in self.desk, False)
            self.told(UnknownName, {"value": value}, lambda: self.desk[value])
        self.assertTrue(self.desk["w"] == PAIR)
        self.assertTrue(self.desk["f"] == drawn_filling(PAIR, [1, 1], 5))
        self.same([self.desk["a"], self.desk["t"]], [[1, 1], [1, -1]])
        self.new_list(lambda: self.desk["a"])
        self.new_list(lambda: self.desk["t"])
        self.answers("show a", "1,1")

    def test_not_iterated_over(self):
        self.assertRaises(TypeError, iter, self.desk)

    def test_no_commands(self):
        for value in STRANGE + ["undo ", " undo", "row a", "names a", "kept", 0, [], ["undo"], ("undo",),
                                "row A w 1,1"]:
            self.fails(value, InvalidCommand, value=value)

    def test_claim_of(self):
        self.same(self.desk.claim_of("k"), ("sure", PAIR, [1, 1], [2, 2]))
        self.same(self.desk.claim_of(label="u"), ("unsplit", PAIR, [2, 2]))
        self.desk.do_all("claim n within a b 7", "claim l steady t b")
        self.same(self.desk.claim_of("n"), ("within", PAIR, [1, 1], [2, 2], 7))
        self.same(self.desk.claim_of("l"), ("steady", PAIR, [1, -1], [2, 2]))
        self.desk.claim_of("k")[2].append(9)
        self.same(self.desk.claim_of("k"), ("sure", PAIR, [1, 1], [2, 2]))
        for value in STRANGE + ["a", "x", 0, [], ["k"], ("k",), PAIR]:
            self.told(UnknownLabel, {"value": value}, self.desk.claim_of, value)
            self.told(UnknownLabel, {"value": value}, self.desk.claim_of, label=value)


class Making(DeskCase):
    def test_web(self):
        self.answers("web x 3 0>1,2>1,0>1", "-")
        self.assertTrue(self.desk["x"] == Web(3, [(0, 1), (2, 1), (0, 1)]))
        self.answers("web y 13 -", "-")
        self.assertTrue(self.desk["y"] == Web(13, []))
        self.fails("web w 0 0>1", NameTaken, name="w")
        self.fails("web a 2 0>1", NameTaken, name="a")
        for count in (0, 14, 999999):
            self.fails(f"web q {count} 0>0", InvalidPlaces, value=count)
        for arrows, told in (("0>0", [(0, 0)]), ("0>2", [(0, 2)]), ("0>1,1>0", [(0, 1), (1, 0)])):
            self.fails("web q 2 " + arrows, InvalidArrows, value=told)

    def test_row_and_weight(self):
        self.answers("row c w 6,0", "-")
        self.same(self.desk["c"], [6, 0])
        self.answers("weight e w -6,6", "-")
        self.same(self.desk["e"], [-6, 6])
        for word, kind in (("row", InvalidRow), ("weight", InvalidWeight)):
            self.fails(word + " a w 1", NameTaken, name="a")
            self.fails(word + " q q 1,1", UnknownName, value="q")
            self.fails(word + " q a 1,1", UnknownName, value="a")
            self.fails(word + " q w 1", kind, value=[1])
            self.fails(word + " q w 0,1,2", kind, value=[0, 1, 2])
            self.fails(word + " q w 7,0", kind, value=[7, 0])
        self.fails("weight q w 0,-7", InvalidWeight, value=[0, -7])
        self.desk.do("web n 13 -")
        numbers = [2] * 12 + [1]
        self.fails("row q n " + ",".join(map(str, numbers)), InvalidRow, value=numbers)
        self.answers("row q n " + ",".join(["2"] * 12 + ["0"]), "-")

    def test_filling(self):
        self.answers("filling h w 3,0 10006", "-")
        self.assertTrue(self.desk["h"] == drawn_filling(PAIR, [3, 0], 10006))
        self.fails("filling f w 9,9 99999", NameTaken, name="f")
        self.fails("filling q f 9,9 99999", UnknownName, value="f")
        self.fails("filling q w 7,0 10007", InvalidRow, value=[7, 0])
        self.fails("filling q w 1 0", InvalidRow, value=[1])
        self.fails("filling q w 1,1 10007", InvalidMany, value=10007)

    def test_both(self):
        self.answers("both h f g", "-")
        self.assertTrue(self.desk["h"] == both(self.desk["f"], self.desk["g"]))
        self.answers("of h", "w")
        self.desk.do_all("drop z", "drop v", "drop t", "turn x w", "copy y w", "filling i y 1,0 1", "filling j x 1,1 1",
                         "filling l w 6,0 1")
        self.answers("both m i f", "-")
        self.answers("of m", "y")
        self.fails("both f f f", NameTaken, name="f")
        self.fails("both n a f", UnknownName, value="a")
        self.fails("both n f q", UnknownName, value="q")
        self.fails("both n q s", UnknownName, value="q")
        self.fails("both n f j", UnlikeWebs)
        self.fails("both n f l", TooMany, what="row", limit=6)
        desk = Desk()
        desk.do_all("web w 5 -", "filling f w 6,0,6,0,6 1", "filling g w 0,6,0,1,0 2", "filling h w 0,6,0,0,0 2")
        self.told(TooMany, {"what": "sum", "limit": 24}, desk.do, "both i f g")
        self.same(desk.do("both i f h"), "-")

    def test_turn(self):
        self.answers("turn x w", "-")
        self.assertTrue(self.desk["x"] == Web(2, [(1, 0), (1, 0)]))
        self.answers("of x", "-")
        self.fails("turn w w", NameTaken, name="w")
        self.fails("turn q a", UnknownName, value="a")

    def test_copy(self):
        for name in ("w", "a", "t", "f"):
            self.answers(f"copy {name}2 {name}", "-")
            self.answers(f"same {name}2 {name}", "yes")
            self.same(self.desk.do(f"of {name}2"), self.desk.do(f"of {name}"))
        self.answers("size a2 0 2", "-")
        self.answers("entry f2 0 0,0 3", "-")
        self.same([self.desk["a"], self.desk["a2"]], [[1, 1], [2, 1]])
        self.answers("same f2 f", "no")
        self.answers("strike w2 0", "-")
        self.assertTrue(self.desk["w"] == PAIR)
        self.assertTrue(self.desk["f"].web() == PAIR)
        self.fails("copy a f", NameTaken, name="a")
        self.fails("copy q q", UnknownName, value="q")

    def test_drop(self):
        self.answers("drop a", "k gone")
        self.assertIs("a" in self.desk, False)
        self.fails("drop a", UnknownName, value="a")
        self.fails("drop w", IsUsed, name="b")
        self.fails("drop v", IsUsed, name="z")
        self.answers("drop z", "-")
        self.answers("drop v", "-")
        for name in ("t", "f", "g"):
            self.answers("drop " + name, "-")
        self.fails("drop w", IsUsed, name="b")
        self.answers("drop b", "u gone")
        self.answers("drop w", "-")
        self.answers("names", "-")
        self.same(self.desk.labels, ["k", "u"])


class Changing(DeskCase):
    def test_arrow(self):
        self.answers("arrow w 0 1", "k false, u true")
        self.assertTrue(self.desk["w"] == Web(2, [(0, 1)] * 3))
        filling = drawn_filling(PAIR, [2, 1], 0)
        self.assertTrue(self.desk["g"] == Filling(Web(2, [(0, 1)] * 3), [2, 1], filling.tables() + [nought(1, 2)]))
        self.same(self.desk["a"], [1, 1])
        self.fails("arrow q 0 1", UnknownName, value="q")
        self.fails("arrow a 0 1", UnknownName, value="a")
        for tail, head in ((1, 0), (0, 0), (0, 2), (2, 0), (1, 1)):
            self.fails(f"arrow w {tail} {head}", InvalidArrows, value=[(0, 1)] * 3 + [(tail, head)])
        for _ in range(9):
            self.desk.do("arrow w 0 1")
        self.fails("arrow w 0 1", InvalidArrows, value=[(0, 1)] * 13)

    def test_strike(self):
        self.desk.do_all("web x 3 0>1,0>2,1>2", "filling h x 1,2,1 4", "filling i x 0,1,0 4")
        tables = self.desk["h"].tables()
        self.answers("strike x 1", "-")
        self.assertTrue(self.desk["x"] == Web(3, [(0, 1), (1, 2)]))
        self.assertTrue(self.desk["h"] == Filling(self.desk["x"], [1, 2, 1], [tables[0], tables[2]]))
        self.assertTrue(self.desk["i"].web() == self.desk["x"])
        for count in (2, 3, 999999):
            self.fails(f"strike x {count}", InvalidArrow, value=count)
        self.answers("strike x 0", "-")
        self.answers("strike x 0", "-")
        self.fails("strike x 0", InvalidArrow, value=0)
        self.fails("strike h 0", UnknownName, value="h")
        self.answers("strike w 1", "-")
        self.answers("show w", "2 0>1")

    def test_size(self):
        self.answers("size a 1 0", "k false")
        self.same(self.desk["a"], [1, 0])
        self.answers("size a 1 2", "k true")
        self.answers("size a 0 3", "k gone")
        self.fails("size t 0 1", UnknownName, value="t")
        self.fails("size q 0 1", UnknownName, value="q")
        self.fails("size a 2 9", InvalidPlace, value=2)
        self.fails("size a 1 7", InvalidRow, value=[3, 7])
        self.desk.do_all("web n 5 -", "row r n 6,6,6,6,0")
        self.fails("size r 4 1", InvalidRow, value=[6, 6, 6, 6, 1])
        self.answers("size r 4 0", "-")

    def test_load(self):
        self.answers("load t 1 -6", "-")
        self.same(self.desk["t"], [1, -6])
        self.answers("load t 0 0", "-")
        self.fails("load a 0 1", UnknownName, value="a")
        self.fails("load t 2 9", InvalidPlace, value=2)
        self.fails("load t 1 -7", InvalidWeight, value=[0, -7])
        self.fails("load t 1 7", InvalidWeight, value=[0, 7])

    def test_entry(self):
        before = self.desk["g"].tables()
        self.answers("entry g 1 0,1 10006", "-")
        rows = before[1].rows()
        rows[0][1] = 10006
        self.assertTrue(self.desk["g"] == Filling(PAIR, [2, 1], [before[0], Table(1, 2, rows)]))
        self.fails("entry a 0 0,0 0", UnknownName, value="a")
        self.fails("entry g 2 9,9 10007", InvalidArrow, value=2)
        for spot in ([1, 0], [0, 2], [0], [0, 0, 0], [999999, 0]):
            self.fails(f"entry g 0 {','.join(map(str, spot))} 10007", InvalidEntry, value=spot)
        self.fails("entry g 0 0,0 10007", InvalidRest, value=10007)
        self.desk.do_all("filling h w 1,0 1")
        self.fails("entry h 0 0,0 1", InvalidEntry, value=[0, 0])


class Claims(DeskCase):
    def test_each_word(self):
        self.desk.do_all("forget k", "forget u", "weight s w -1,1", "row c w 1,0", "row d w 1,2")
        for told, state in (("sure a b", "true"), ("barred a b", "false"), ("unsplit a", "true"), ("split b", "true"),
                            ("steady t b", "true"), ("tilted s b", "true"), ("within c d 3", "true"),
                            ("beyond c d 2", "true")):
            self.answers("claim x " + told, "x " + state)
            self.answers("claimed x", told)
            self.answers("state x", state)
            self.answers("states", "x " + state)
            self.same(self.desk.claim_of("x")[0], told.split()[0])
            self.answers("forget x", "-")
        for told, state in (("within c d 2", "false"), ("beyond c d 3", "false"), ("tilted t b", "false")):
            self.answers("claim x " + told, "x " + state)
            self.answers("forget x", "-")

    def test_errors(self):
        self.fails("claim k sure q q", LabelTaken, label="k")
        self.fails("claim x sure q s", UnknownName, value="q")
        self.fails("claim x sure a t", UnknownName, value="t")
        self.fails("claim x steady a b", UnknownName, value="a")
        self.fails("claim x steady t w", UnknownName, value="w")
        self.fails("claim x unsplit f", UnknownName, value="f")
        self.fails("claim x sure a z", UnlikeWebs)
        self.fails("claim x within z a 0", UnlikeWebs)
        self.fails("claim x steady t z", UnlikeWebs)
        self.fails("claim x sure b a", InvalidClaim, value=("sure", PAIR, [2, 2], [1, 1]))
        self.desk.do_all("row n w 0,0", "weight s w 1,1")
        self.fails("claim x split n", InvalidClaim, value=("split", PAIR, [0, 0]))
        self.fails("claim x tilted s a", InvalidClaim, value=("tilted", PAIR, [1, 1], [1, 1]))
        for word in ("forget", "state", "claimed"):
            self.fails(word + " x", UnknownLabel, value="x")
            self.fails(word + " a", UnknownLabel, value="a")

    def test_equal_webs(self):
        self.desk.do_all("copy x w", "row c x 2,2")
        self.answers("claim e sure a c", "e true")
        self.answers("arrow x 0 1", "e gone")
        self.same(self.desk.claim_of("e"), None)
        self.answers("arrow w 0 1", "e false, k false, u true")
        self.assertTrue(self.desk.claim_of("e") == ("sure", Web(2, [(0, 1)] * 3), [1, 1], [2, 2]))

    def test_gone(self):
        self.answers("drop b", "k gone, u gone")
        self.same([self.desk.claim_of(label) for label in "ku"], [None, None])
        self.answers("row b w 0,0", "-")
        self.answers("size a 0 0", "-")
        self.answers("size a 1 0", "k true")
        self.answers("size b 0 1", "u true")
        self.answers("drop b", "k gone, u gone")
        self.answers("weight b w 2,2", "-")
        self.answers("drop b", "-")
        self.answers("row b v 2", "u false")
        self.same([self.desk.claim_of("k"), self.desk.claim_of("u")], [None, ("unsplit", Web(1, []), [2])])
        self.answers("drop b", "u gone")
        self.answers("row b w 2,2", "k true, u false")
        self.answers("state k", "true")

    def test_gone_by_too_many(self):
        self.desk.do_all("drop z", "drop v", "web n 5 0>1", "row c n 4,2,2,2,2", "row d n 4,3,2,2,2",
                         "row e n 0,0,0,0,1")
        self.answers("claim x sure c d", "x gone")
        self.assertTrue(self.desk.claim_of("x") == ("sure", Web(5, [(0, 1)]), [4, 2, 2, 2, 2], [4, 3, 2, 2, 2]))
        self.answers("claim y within c d 0", "y gone")
        self.answers("claim z unsplit c", "z gone")
        self.answers("claim s sure e d", "s true")
        self.answers("size c 0 0", "x true, y true, z false")
        self.answers("size c 0 4", "x gone, y gone, z gone")
        self.answers("states", "k true, s true, u false, x gone, y gone, z gone")
        self.answers("forget x", "-")
        self.fails("sure c", TooMany, what="rows", limit=400)
        self.fails("falls c", TooMany, what="rows", limit=400)
        self.fails("least c e", TooMany, what="rows", limit=400)
        self.answers("least e c", "0")
        self.desk.do("weight y n 0,0,0,0,0")
        self.fails("steps y c", TooMany, what="rows", limit=400)

    def test_many_changes_at_once(self):
        self.desk.do_all("claim b split b", "claim a unsplit b", "claim c beyond a a 0")
        self.answers("arrow w 0 1", "a true, b false, c true, k false, u true")
        self.answers("strike w 0", "a false, b true, c false, k true, u false")
        self.answers("drop t", "-")


class Telling(DeskCase):
    def test_undo_and_redo(self):
        self.fails("redo", NothingToRedo)
        for line in START[::-1]:
            self.answers("undo", line)
        self.answers("names", "-")
        self.same([self.desk.lines(), len(self.desk), self.desk.labels], [[], 0, []])
        self.fails("undo", NothingToUndo)
        for at, line in enumerate(START):
            self.answers("redo", line)
            self.same(len(self.desk), at + 1)
        self.fails("redo", NothingToRedo)
        self.answers("states", "k true, u false")
        self.answers("names", ALL)
        self.answers("undo", START[-1])
        self.fails("drop w", IsUsed, name="a")
        self.answers("show a", "1,1")
        self.answers("redo", START[-1])
        self.answers("undo", START[-1])
        self.answers("forget k", "-")
        self.fails("redo", NothingToRedo)
        self.answers("undo", "forget k")
        self.answers("undo", START[-2])
        self.answers("redo", START[-2])
        self.answers("redo", "forget k")
        self.answers("states", "-")

    def test_states_claimed_names_of(self):
        self.answers("states", "k true, u false")
        self.answers("state u", "false")
        self.answers("claimed k", "sure a b")
        self.answers("claimed u", "unsplit b")
        self.answers("names", ALL)
        self.answers("of a", "w")
        self.answers("of z", "v")
        self.answers("of w", "-")
        self.fails("of k", UnknownName, value="k")

    def test_show(self):
        self.desk.do_all("drop a", "drop g", "web x 3 0>1,2>1", "web n 12 -", "filling h x 2,3,0 0",
                         "filling i x 1,0,1 0", "weight s x 0,-1,6")
        rows = drawn_filling(self.desk["x"], [2, 3, 0], 0).tables()[0].rows()
        told = "/".join(",".join(map(str, row)) for row in rows)
        for name, wanted in (("w", "2 0>1,0>1"), ("v", "1 -"), ("x", "3 0>1,2>1"), ("n", "12 -"), ("b", "2,2"),
                             ("z", "3"), ("t", "1,-1"), ("s", "0,-1,6"), ("i", "1,0,1 - -"), ("h", f"2,3,0 {told} -")):
            self.answers("show " + name, wanted)
        self.desk.do_all("entry f 0 0,0 2", "entry f 1 0,0 0")
        self.answers("show f", "1,1 2 0")
        self.desk.do_all("filling l v 4 1")
        self.answers("show l", "4")
        self.fails("show q", UnknownName, value="q")

    def test_same(self):
        self.answers("same a z", "no")
        self.desk.do_all("drop z", "drop v", "row c w 1,1", "turn x w", "row d x 1,1", "copy y w", "weight s w 1,1",
                         "row e y 1,1")
        for name, other, wanted in (("a", "a", "yes"), ("a", "c", "yes"), ("a", "b", "no"), ("a", "d", "no"),
                                    ("a", "e", "yes"), ("w", "y", "yes"), ("w", "x", "no"), ("t", "s", "no"),
                                    ("f", "f", "yes"), ("f", "g", "no")):
            self.answers(f"same {name} {other}", wanted)
        self.fails("same a s", UnknownName, value="s")
        self.fails("same a w", UnknownName, value="w")
        self.fails("same a q", UnknownName, value="q")
        self.fails("same q a", UnknownName, value="q")
        self.desk.do_all("drop e", "drop c", "drop s", "drop t", "web x2 2 1>0,1>0")
        self.answers("same x x2", "yes")
        self.desk.do_all("filling h x 1,1 5", "filling i x2 1,1 5")
        self.answers("same h i", "yes")
        self.answers("same h f", "no")

    def test_numbers(self):
        self.desk.do_all("row c w 1,0", "row d w 1,2")
        for command, wanted in (("form c d", "-3"), ("form a b", "0"), ("form d d", "1"), ("least c d", "3"),
                                ("least a a", "0"), ("sure b", "0,0/0,1/0,2/1,1/1,2/2,2"), ("sure c", "0,0/1,0"),
                                ("falls b", "1,1/1,1"), ("falls d", "1,2"), ("steps t b", "2,2"), ("steps t d", "1,2")):
            self.answers(command, wanted)
        self.desk.do_all("load t 0 0", "load t 1 1", "row e w 0,0")
        self.answers("steps t b", "0,2/2,0")
        for command, wanted in (("falls e", "-"), ("steps t e", "-"), ("sure e", "0,0")):
            self.answers(command, wanted)
        near, far = self.desk["f"], self.desk["g"]
        self.answers("maps f g", str(maps_many(near, far)))
        self.answers("lack f g", str(lack(near, far)))
        self.answers("lack g f", str(lack(far, near)))
        for word in ("form", "least"):
            self.fails(word + " a z", UnlikeWebs)
            self.fails(word + " a f", UnknownName, value="f")
        self.desk.do("filling h v 1 1")
        for word in ("maps", "lack"):
            self.fails(word + " f h", UnlikeWebs)
            self.fails(word + " a f", UnknownName, value="a")
        self.fails("steps t z", UnlikeWebs)
        self.fails("steps a t", UnknownName, value="a")
        for word in ("sure", "falls"):
            self.fails(word + " w", UnknownName, value="w")

    def test_too_many_of_both(self):
        desk = Desk()
        desk.do_all("web w 2 " + ",".join(["0>1"] * 8), "filling f w 5,5 1", "filling g w 6,6 1")
        self.assertEqual(desk.do("lack f f"), str(lack(desk["f"], desk["f"])))
        for word in ("maps", "lack"):
            self.told(TooMany, {"what": "size", "limit": 200}, desk.do, word + " f g")


class Limits(DeskCase):
    def test_12_names(self):
        self.desk.do_all("copy a1 a", "copy a2 a", "copy a3 a", "copy a4 a")
        names = {"what": "names", "limit": 12}
        for command in ("copy a5 a", "web x 1 -", "row x w 1,1", "weight x w 1,1", "filling x w 1,1 0", "both x f g",
                        "turn x w"):
            self.fails(command, TooMany, **names)
        self.fails("row x w 7,7", InvalidRow, value=[7, 7])
        self.fails("web a5 99 -", InvalidPlaces, value=99)
        self.answers("drop a4", "-")
        self.answers("copy a5 a", "-")

    def test_8_labels(self):
        for at in range(6):
            self.answers(f"claim c{at} sure a b", f"c{at} true")
        self.fails("claim x sure a b", TooMany, what="labels", limit=8)
        self.fails("claim x sure b a", InvalidClaim, value=("sure", PAIR, [2, 2], [1, 1]))
        self.fails("claim k sure a b", LabelTaken, label="k")
        self.answers("forget k", "-")
        self.answers("claim x sure a b", "x true")

    def test_200_deeds(self):
        for at in range(190):
            self.desk.do(f"size z 0 {at % 5}")
        self.same(len(self.desk), 200)
        for command in ("size z 0 1", "drop a", "forget k", "claim x sure a b", "web x 1 -"):
            self.fails(command, TooMany, what="deeds", limit=200)
        self.desk.do_all("names", "undo", "redo", "undo")
        self.same(len(self.desk), 199)
        self.answers("size z 0 1", "-")
        self.fails("size z 0 7", InvalidRow, value=[7])
        self.fails("size z 0 2", TooMany, what="deeds", limit=200)

    def test_which_comes_first(self):
        for at in range(4):
            self.desk.do(f"copy a{at} a")
        for at in range(6):
            self.desk.do(f"claim c{at} sure a b")
        for _ in range(180):
            self.desk.do("size z 0 1")
        self.same(len(self.desk), 200)
        self.fails("copy x a", TooMany, what="names", limit=12)
        self.fails("claim x sure a b", TooMany, what="labels", limit=8)
        self.fails("size z 0 1", TooMany, what="deeds", limit=200)


if __name__ == "__main__":
    unittest.main()
