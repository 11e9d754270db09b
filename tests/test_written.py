"""[9a1] to [9a3]: written things, sorts, the unread position."""

import itertools
import random
import unittest

from sureparts.errors import InvalidSort, InvalidThing, TooMany, UnreadText
from sureparts.fillings import Filling, drawn_filling, nought_filling
from sureparts.tables import Table, nought, unit
from sureparts.webs import Web
from sureparts.written import is_of_sort, read, written
from tests.helpers import STRANGE, WEBS, Case, drawn, drawn_row, drawn_table, drawn_web

SORTS = ["table", "web", "filling", "row", "weight"]
PAIR = Web(2, [(0, 1), (0, 1)])
NEAR = Filling(PAIR, [1, 1], [Table(1, 1, [[1]]), Table(1, 1, [[0]])])
NEAR_TEXT = "((2 [(0 1) (0 1)]) [1 1] [(1 1 [[1]]) (1 1 [[0]])])"
MOST = 10 ** 30 - 1
SIGNS = {"what": "signs", "limit": 20000}

# Of each sort some things, each with its written form.
THINGS = {
    "table": [(Table(0, 0, []), "(0 0 [])"), (nought(0, 200), "(0 200 [])"), (nought(2, 0), "(2 0 [[] []])"),
              (Table(2, 3, [[0, 10006, 1], [70, 8, 900]]), "(2 3 [[0 10006 1] [70 8 900]])")],
    "web": [(Web(1, []), "(1 [])"), (PAIR, "(2 [(0 1) (0 1)])"), (Web(13, [(12, 0), (10, 3)]), "(13 [(12 0) (10 3)])")],
    "filling": [(NEAR, NEAR_TEXT), (Filling(Web(1, []), [6], []), "((1 []) [6] [])"),
                (Filling(Web(2, [(1, 0)]), [2, 0], [nought(2, 0)]), "((2 [(1 0)]) [2 0] [(2 0 [[] []])])")],
    "row": [([], "[]"), ([0], "[0]"), ([7, 10, MOST], "[7 10 " + "9" * 30 + "]"), ([0] * 13, "[" + "0 " * 12 + "0]")],
    "weight": [([], "[]"), ([-1, 0, 20], "[-1 0 20]"), ([-MOST], "[-" + "9" * 30 + "]"), ([-100] * 13,
               "[" + "-100 " * 12 + "-100]")],
}
NOT_OF = {
    "table": [PAIR, NEAR, [], [1], (0, 0, []), "(0 0 [])", 0],
    "web": [nought(1, 1), NEAR, [], [1], (1, []), "(1 [])", 1],
    "filling": [nought(1, 1), PAIR, [], [1], (PAIR, [1, 1], NEAR.tables()), [NEAR]],
    "row": [[-1], [1, True], [False], [None], ["1"], [[1]], [(1,)], [0] * 14, (0,) * 14, [MOST + 1], [0, 10 ** 31], 0,
            "[]", {0: 1}, PAIR, nought(0, 0), [nought(0, 0)], NEAR],
    "weight": [[True], [0, None], ["1"], [[1]], [0] * 14, (0,) * 14, [MOST + 1], [-MOST - 1], [0, -10 ** 31], 0, "[]",
               {0: 1}, PAIR, nought(0, 0), NEAR],
}
# Written things of no sort at all.
OTHERS = ["0", "-1", "1234567890" * 4, "()", "(1)", "(1 2)", "[[]]", "[()]", "[(0 1)]", "([] ())",
          "[1" + "0" * 30 + "]", "[-1" + "0" * 30 + "]", "[" + "1" * 5000 + "]", "[" + "0 " * 13 + "0]", "(1 2 3)",
          "(2 [[0 1]])", "(2 ((0 1)))",
          "[2 [(0 1)]]", "(2 [(0 1) (1 0)])", "(2 [(0 0)])", "(2 [(0 2)])", "(14 [])", "(0 [])", "(2 [(0 1)] 1)", "(2)",
          "(1 1 [[10007]])", "(1 1 [[-1]])", "(1 1 [(1)])", "(1 1 ([1]))", "[1 1 [[1]]]", "(2 1 [[1]])", "(1 2 [[1]])",
          "(201 0 [])", "(0 0 [] 0)", "(0 0)", "(0 0 0)", "((1 []) [7] [])", "((1 []) (6) [])", "((1 []) [6] ())",
          "[(1 []) [6] []]", "((1 []) [6])", "((1 []) [6] 0)", "((1 []) [6] [0])", "(1 [6] [])", "([] [] [])",
          "((2 [(0 1)]) [1 1] [])", "((2 [(0 1)]) [1 1] [[1 1 [[5]]]])", "((2 [(0 1)]) [1 1] [(1 2 [[5 5]])])",
          "((2 [(0 1)]) [1 1] [(1 1 [[5]]) (1 1 [[5]])])", "((2 [[0 1]]) [1 1] [(1 1 [[5]])])", "[-1 [0]]",
          "((2 [(0 1)]) [1 1] [(1 1 [(5)])])", "((2 [(0 1)]) [1 1] [0])", "(() [1] [])", "(" + "1" * 40 + " [])"]


class Short(Exception):
    pass


class Stop(Exception):
    pass


def behind(text, at):
    """Where the written thing that begins there ends; Short if the string does, Stop(position) where it can't go on."""
    if at == len(text):
        raise Short
    if text[at] in "[(":
        close = {"[": "]", "(": ")"}[text[at]]
        if text[at + 1:at + 2] == close:
            return at + 2
        at = behind(text, at + 1)
        while text[at:at + 1] == " ":
            at = behind(text, at + 1)
        if at == len(text):
            raise Short
        if text[at] != close:
            raise Stop(at)
        return at + 1
    if text[at] == "-":
        at += 1
        if at == len(text):
            raise Short
        if text[at] == "0":
            raise Stop(at)
    if text[at] == "0":
        return at + 1
    if text[at] not in "123456789":
        raise Stop(at)
    while text[at:at + 1] in tuple("0123456789"):
        at += 1
    return at


def unread(text):
    """The unread position by the words of [9a3]; None of a written thing."""
    try:
        end = behind(text, 0)
    except Short:
        return len(text)
    except Stop as error:
        return error.args[0]
    return None if end == len(text) else end


def drawn_things(seed, often=40):
    source = random.Random(seed)
    for _ in range(often):
        web = drawn_web(source, 6, 8)
        yield "web", web
        yield "table", drawn_table(source, source.randint(0, 4), source.randint(0, 4))
        yield "filling", drawn(source, web, drawn_row(source, web, 3))
        yield "row", [source.randint(0, 10 ** source.randint(0, 29)) for _ in range(source.randint(0, 13))]
        yield "weight", [source.randint(-10 ** 9, 10 ** source.randint(0, 29)) for _ in range(source.randint(0, 13))]


class Sorts(Case):
    def test_of_sort(self):
        for sort in SORTS:
            for thing, _ in THINGS[sort]:
                self.assertIs(is_of_sort(sort, thing), True)
                self.assertIs(is_of_sort(value=thing, sort=sort), True)
            for value in NOT_OF[sort] + STRANGE:
                self.assertIs(is_of_sort(sort, value), False)
                self.told(InvalidThing, {"value": value}, written, sort, value)
                self.told(InvalidThing, {"value": value}, written, value=value, sort=sort)
        for sort in ("row", "weight"):
            self.assertIs(is_of_sort(sort, (7, 7)), True)
            self.assertIs(is_of_sort(sort, ()), True)
        self.assertIs(is_of_sort("weight", (-7, 7)), True)

    def test_no_sorts(self):
        for value in STRANGE + [0, 1, "Table", "rows", "table ", "part", [], ["row"], ("row",), PAIR, nought(0, 0)]:
            self.told(InvalidSort, {"value": value}, is_of_sort, value, None)
            self.told(InvalidSort, {"value": value}, written, value, None)
            self.told(InvalidSort, {"value": value}, read, value, None)
            self.told(InvalidSort, {"value": value}, read, text=None, sort=value)


class Written(Case):
    def test_forms(self):
        for sort in SORTS:
            for thing, text in THINGS[sort]:
                self.same(written(sort, thing), text)
                self.same(written(value=thing, sort=sort), text)
                self.assertTrue(read(sort, text) == thing)
                self.assertTrue(read(text=text, sort=sort) == thing)
        self.same(written("row", (1, 2)), "[1 2]")
        self.same(written("weight", (1, -2)), "[1 -2]")
        self.same(read("row", "[1 2]"), [1, 2])
        self.same(written("filling", Filling(Web(2, ((0, 1),)), (1, 1), (Table(1, 1, ((5,),)),))),
                  "((2 [(0 1)]) [1 1] [(1 1 [[5]])])")

    def test_read_back(self):
        for sort, thing in drawn_things(1):
            text = written(sort, thing)
            back = read(sort, text)
            self.assertTrue(back == thing)
            self.assertIs(type(back), type(thing))
            self.same(written(sort, back), text)
            self.assertEqual(unread(text), None)
            for other in SORTS:
                if other != sort and not (sort == "row" and other == "weight"):
                    if sort == "weight" and other == "row" and min(thing, default=0) >= 0:
                        continue
                    self.told(UnreadText, {"position": None}, read, other, text)

    def test_new(self):
        for sort, text in (("row", "[1 2]"), ("weight", "[-1 2]"), ("row", "[]")):
            self.new_list(lambda: read(sort, text))
        row = [1, 2]
        written("row", row)
        self.same(row, [1, 2])

    def test_20000_signs_and_more(self):
        self.told(TooMany, SIGNS, written, "table", nought(200, 200))
        text = "(48 200 " + str([[0] * 200] * 48).replace(",", "") + ")"
        for length in (20000, 20001):
            # Each nought that is made a rest of five digits has four signs more, the last one what is left.
            left = length - len(text)
            rests = [10000] * (left // 4) + [10 ** (left % 4)]
            rests += [0] * (48 * 200 - len(rests))
            rows = [rests[at * 200:at * 200 + 200] for at in range(48)]
            table = Table(48, 200, rows)
            wanted = "(48 200 " + str(rows).replace(",", "") + ")"
            self.assertEqual(len(wanted), length)
            if length > 20000:
                self.told(TooMany, SIGNS, written, "table", table)
            else:
                self.same(written("table", table), wanted)
                self.assertTrue(read("table", wanted) == table)
                self.told(UnreadText, {"position": 20000}, read, "table", wanted + ")")
                self.told(UnreadText, {"position": 19999}, read, "table", wanted[:-1])


class Read(Case):
    def test_no_strings(self):
        for sort in SORTS:
            strange = [value for value in STRANGE if not isinstance(value, str)]
            for value in strange + [0, 1, [], (), [1], ["[1]"], PAIR]:
                self.told(UnreadText, {"position": None}, read, sort, value)
                self.told(UnreadText, {"position": None}, read, text=value, sort=sort)

    def test_of_other_sorts(self):
        for text in OTHERS:
            self.assertEqual(unread(text), None)
            for sort in SORTS:
                self.told(UnreadText, {"position": None}, read, sort, text)
        self.told(UnreadText, {"position": None}, read, "row", "[-1]")
        self.same(read("weight", "[-1]"), [-1])
        self.told(UnreadText, {"position": None}, read, "row", "[1" + "0" * 30 + "]")
        self.same(read("row", "[1" + "0" * 29 + "]"), [10 ** 29])
        self.told(UnreadText, {"position": None}, read, "row", "[" + "0 " * 13 + "0]")

    def test_written_out(self):
        for text, position in (("", 0), ("[", 1), ("(", 1), ("[1", 2), ("[1 ", 3), ("-", 1), ("[-", 2), ("x", 0),
                               ("]", 0), (" ", 0), ("[ ", 1), ("[ 1]", 1), ("[1 ]", 3), ("[1  2]", 3), ("[1)", 2),
                               ("(1]", 2),
                               ("[1] ", 3), ("[1]]", 3), ("[]1", 2), ("1 2", 1), ("01", 1), ("[01]", 2), ("[00]", 2),
                               ("[-0]", 2), ("-0", 1), ("--1", 1), ("[-]", 2), ("[1-2]", 2), ("[1,2]", 2), ("+1", 0),
                               ("[+1]", 1), ("[1.0]", 2), ("[1\n]", 2), ("[[]", 3), ("[[] ", 4), ("([] [1 2]", 9),
                               ("[1][", 3), ("[1 x", 3), ("[(])", 2), ("10", None), ("[10]", "row"), ("\n", 0)):
            for sort in SORTS:
                if position == "row" and sort in ("row", "weight"):
                    self.same(read(sort, text), [10])
                    continue
                wanted = None if position == "row" else position
                self.told(UnreadText, {"position": wanted}, read, sort, text)

    def test_all_short_strings(self):
        for length in range(6):
            for signs in itertools.product("01-[) ]", repeat=length):
                text = "".join(signs)
                position = unread(text)
                if position is not None:
                    self.told(UnreadText, {"position": position}, read, "weight", text)
                elif not text.startswith("[") or "[" in text[1:]:
                    self.told(UnreadText, {"position": None}, read, "weight", text)
                else:
                    self.same(read("weight", text), [int(part) for part in text[1:-1].split()])

    def test_at_each_place(self):
        source = random.Random(2)
        for sort, text in [(sort, text) for sort in SORTS for _, text in THINGS[sort]]:
            for at in range(len(text) + 1):
                self.read_as(sort, text[:at])
                self.read_as(sort, text[:at] + text[at + 1:])
                for sign in "0123-[]() x,":
                    self.read_as(sort, text[:at] + sign + text[at + 1:])
                    self.read_as(sort, text[:at] + sign + text[at:])
                other = source.randrange(len(text))
                self.read_as(sort, text[:at] + text[other:])

    def read_as(self, sort, text):
        """The string is read exactly if what comes is written so; otherwise its unread position is told."""
        position = unread(text)
        try:
            thing = read(sort, text)
        except UnreadText as error:
            self.assertEqual(error.position, position)
            return
        self.assertEqual(position, None)
        self.assertIs(is_of_sort(sort, thing), True)
        self.same(written(sort, thing), text)

    def test_drawn_and_nought_fillings(self):
        for web in WEBS:
            for filling in (drawn_filling(web, [2] * web.places, 3), nought_filling(web, [0] * web.places)):
                self.assertTrue(read("filling", written("filling", filling)) == filling)
                self.assertTrue(read("web", written("web", web)) == web)
        self.assertTrue(read("table", written("table", unit(9))) == unit(9))


if __name__ == "__main__":
    unittest.main()
