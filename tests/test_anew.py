"""[4] ANEW, and of [9b]: do_all, attempt, Trial, tried, copies, desks made again of their lines."""

import random
import unittest

from sureparts.claims import is_true
from sureparts.desk import Desk, Trial, tried
from sureparts.errors import (CommandFailed, InvalidCommand, InvalidDeeds, InvalidRow, LimitError, MissingError,
                              NothingToRedo, NothingToUndo, StateError, TooMany, UnknownLabel, UnknownName, WebError)
from sureparts.lacks import sure_paper
from tests.desk_model import START, Model, Told, drawn_command
from tests.helpers import STRANGE, Case, alike
from tests.test_desk import whole

OWN = (WebError, MissingError, StateError, LimitError)


def outcome(action, command):
    """What the command answers, or how it fails: the error's class and attributes."""
    try:
        return action(command)
    except OWN as error:
        return type(error), vars(error)
    except Told as error:
        return error.kind, error.attributes


def same_outcome(one, other):
    if isinstance(one, str) or isinstance(other, str):
        return one == other
    return one[0] is other[0] and alike(sorted(one[1].items()), sorted(other[1].items()))


def drawn_desks(seed, often, length):
    """(source, desk, model) with drawn commands done at both."""
    source = random.Random(seed)
    for _ in range(often):
        desk, model = Desk(), Model()
        for line in START:
            desk.do(line)
            model.do(line)
        for _ in range(length):
            command = drawn_command(source, model)
            outcome(model.do, command)
            outcome(desk.do, command)
        yield source, desk, model


class Anew(Case):
    def test_as_made_from_nothing_after_each_command(self):
        source = random.Random(1)
        failed = 0
        for _ in range(40):
            desk, model = Desk(), Model()
            for line in START:
                self.assertEqual(desk.do(line), model.do(line))
            for _ in range(60):
                command = drawn_command(source, model)
                before = whole(desk)
                told = outcome(desk.do, command)
                self.assertTrue(same_outcome(told, outcome(model.do, command)), command)
                if not isinstance(told, str):
                    failed += 1
                    self.assertEqual(whole(desk), before)
                self.as_the_model(desk, model)
        self.assertGreater(failed, 100)

    def as_the_model(self, desk, model):
        self.same(desk.lines(), model.done)
        self.same(desk.names, sorted(model.things))
        self.same(desk.labels, sorted(model.notes))
        self.same(len(desk), len(model.done))
        for name in desk.names:
            self.assertIs(name in desk, True)
            self.assertTrue(alike(desk[name], model.things[name][2]))
        for label in desk.labels:
            self.same(desk.do("state " + label), model.state(label))
            self.assertTrue(alike(desk.claim_of(label), model.claim(label)))

    def test_made_again_of_the_lines(self):
        for _, desk, _ in drawn_desks(2, 30, 40):
            again = Desk.again(desk.lines())
            self.assertIsInstance(again, Desk)
            twin = desk.copy()
            while isinstance(outcome(twin.do, "redo"), str):
                pass
            # What is taken back isn't among the lines.
            self.assertEqual(whole(again)[:3], whole(desk)[:3])
            self.assertEqual(whole(again)[5:], whole(desk)[5:])
            self.assertEqual(whole(Desk.again(lines=tuple(desk.lines()))), whole(again))
            self.assertEqual(whole(Desk.again(twin.lines()))[:3], whole(twin)[:3])

    def test_all_undone_and_done_again(self):
        for _, desk, _ in drawn_desks(3, 30, 40):
            before, seen = whole(desk), []
            while len(desk):
                seen.append(whole(desk)[:3])
                self.assertEqual(desk.do("undo"), seen[-1][2][-1])
            self.assertRaises(NothingToUndo, desk.do, "undo")
            self.assertEqual([desk.names, desk.labels], [[], []])
            for told in seen[::-1]:
                desk.do("redo")
                self.assertEqual(whole(desk)[:3], told)
            self.assertEqual(whole(desk)[:3], before[:3])

    def test_states_are_those_of_the_claims(self):
        for _, desk, _ in drawn_desks(4, 30, 40):
            for label in desk.labels:
                claim = desk.claim_of(label)
                wanted = "gone" if claim is None else "true" if is_true(claim) else "false"
                self.assertEqual(desk.do("state " + label), wanted)

    def test_copies_go_on_by_themselves(self):
        for source, desk, model in drawn_desks(5, 20, 30):
            twin, before = desk.copy(), whole(desk)
            self.assertEqual(whole(twin), before)
            for _ in range(15):
                outcome(twin.do, drawn_command(source, model))
            self.assertEqual(whole(desk), before)
            other, kept = desk.copy(), whole(twin)
            for _ in range(15):
                outcome(desk.do, drawn_command(source, model))
            self.assertEqual(whole(twin), kept)
            self.assertEqual(whole(other), before)


class Again(Case):
    def test_no_deeds(self):
        for value in STRANGE + [0, "web w 1 -", {"web w 1 -": 0}]:
            self.told(InvalidDeeds, {"position": None}, Desk.again, value)
            self.told(InvalidDeeds, {"position": None}, Desk.again, lines=value)
        for wrong in STRANGE + ["undo", "names", "web", "state k", "web w 1 - ", 0, ["web w 1 -"]]:
            for at in range(3):
                lines = ["web w 1 -", "row a w 1", "row b w 2"]
                lines[at] = wrong
                self.told(InvalidDeeds, {"position": at}, Desk.again, lines)
                # What is no deed comes ahead of what can't be done.
                self.told(InvalidDeeds, {"position": at + 1}, Desk.again, ["drop q"] + lines)
        self.assertEqual(whole(Desk.again([])), whole(Desk()))
        self.assertEqual(whole(Desk.again(())), whole(Desk()))

    def test_failed(self):
        for lines, at, kind in ((["web w 1 -", "row a w 7"], 1, InvalidRow), (["drop q"], 0, UnknownName),
                                (["web w 1 -", "row a w 1"] + ["size a 0 1"] * 199, 200, TooMany)):
            with self.assertRaises(CommandFailed) as caught:
                Desk.again(lines)
            self.assertEqual(vars(caught.exception), {"position": at})
            self.assertIs(type(caught.exception.__cause__), kind)
        self.assertEqual(len(Desk.again(["web w 1 -", "row a w 1"] + ["size a 0 1"] * 198)), 200)


class Blocks(Case):
    def setUp(self):
        self.desk = Desk()
        self.desk.do_all(*START)
        self.desk.do_all("drop c", "undo")
        self.desk.attach("p", self.paper())
        self.before = self.all()

    def paper(self, row=(1, 1), whole_row=(2, 2)):
        return sure_paper(self.desk["w"], row, whole_row)

    def all(self):
        return whole(self.desk), [self.desk.fits(label) for label in self.desk.labels]

    def change(self):
        """Change all of the desk: things, labels, papers, what can be taken back and done again."""
        self.desk.do_all("size a 0 0", "forget q", "claim q sure a b", "claim r sure b b", "drop d", "undo")
        self.desk.attach("q", self.paper((0, 1)))
        self.desk.attach("r", self.paper((2, 2)))
        self.desk.attach("p", self.paper((0, 1)))
        self.assertNotEqual(self.all(), self.before)

    def test_do_all(self):
        self.same(self.desk.do_all(), [])
        self.assertEqual(self.all(), self.before)
        self.same(self.desk.do_all("size a 0 0", "states", "undo", "redo"),
                  ["-", "p true, q false", "size a 0 0", "size a 0 0"])
        self.assertEqual(self.desk["a"], [0, 1])

    def test_do_all_that_fails(self):
        for commands, at, kind in ((("drop c", "drop c"), 1, UnknownName), ((None,), 0, InvalidCommand),
                                   (("undo", "redo", "redo", "redo"), 3, NothingToRedo),
                                   (("size a 0 0", "forget p", "forget p"), 2, UnknownLabel),
                                   (("drop c", "names", ["undo"]), 2, InvalidCommand),
                                   (("undo",) * 8 + ("drop a",), 7, NothingToUndo),
                                   (("size a 0 7", "drop q"), 0, InvalidRow)):
            for action in (self.desk.do_all, self.desk.attempt):
                with self.assertRaises(CommandFailed) as caught:
                    action(*commands)
                self.assertEqual(vars(caught.exception), {"position": at})
                self.assertIs(type(caught.exception.__cause__), kind)
                self.assertEqual(self.all(), self.before)

    def test_attempt(self):
        commands = ("size a 0 0", "claim r sure a b", "states", "undo", "undo", "redo", "drop c", "names")
        told = self.desk.attempt(*commands)
        self.assertEqual(self.all(), self.before)
        self.same(self.desk.do_all(*commands), told)
        self.assertEqual(told[1], "r true")
        self.assertEqual(told[2], "p true, q false, r true")

    def test_trial(self):
        with Trial(self.desk) as held:
            self.assertIs(held, self.desk)
            self.change()
        self.assertEqual(self.all(), self.before)
        trial = Trial(desk=self.desk)
        self.desk.do("redo")
        kept = self.all()
        with trial:
            self.change()
        # It is the begin of the block that is had back, not that of the Trial.
        self.assertEqual(self.all(), kept)
        self.desk.do("undo")
        with trial:
            self.change()
        self.assertEqual(self.all(), self.before)

    def test_trial_that_an_error_leaves(self):
        for error in (KeyError("x"), ValueError(1), InvalidRow([7]), RuntimeError()):
            with self.assertRaises(type(error)) as caught:
                with Trial(self.desk):
                    self.change()
                    raise error
            self.assertIs(caught.exception, error)
            self.assertEqual(self.all(), self.before)
        with self.assertRaises(NothingToRedo):
            with Trial(self.desk):
                self.desk.do_all("redo")
                self.desk.do("redo")
        self.assertEqual(self.all(), self.before)

    def test_trials_within_trials(self):
        trial = Trial(self.desk)
        for inner in (trial, Trial(self.desk)):
            with trial:
                self.desk.do("size a 0 0")
                kept = self.all()
                with inner:
                    self.change()
                    self.desk.do("undo")
                self.assertEqual(self.all(), kept)
                with inner as held:
                    self.assertIs(held, self.desk)
                    self.desk.do("drop d")
                self.assertEqual(self.all(), kept)
            self.assertEqual(self.all(), self.before)

    def test_tried(self):
        seen = []

        def action(desk):
            seen.append(desk)
            self.change()
            return [desk.names]

        self.same(tried(self.desk, action), [["a", "b", "c", "d", "w"]])
        self.assertIs(seen[0], self.desk)
        self.assertEqual(self.all(), self.before)
        self.same(tried(action=lambda desk: desk("drop c"), desk=self.desk), "-")
        self.assertEqual(self.all(), self.before)
        self.assertIs(tried(self.desk, lambda desk: None), None)

        def wrong(desk):
            self.change()
            raise KeyError("y")

        self.assertRaises(KeyError, tried, self.desk, wrong)
        self.assertEqual(self.all(), self.before)

    def test_drawn_blocks(self):
        for source, desk, model in drawn_desks(6, 15, 30):
            before = whole(desk)
            commands = [drawn_command(source, model) for _ in range(8)]
            with Trial(desk):
                for command in commands:
                    outcome(desk.do, command)
            self.assertEqual(whole(desk), before)
            twin = desk.copy()
            failed = [at for at, command in enumerate(commands) if not isinstance(outcome(twin.do, command), str)]
            try:
                told = desk.attempt(*commands)
                self.assertEqual(failed, [])
            except CommandFailed as error:
                self.assertEqual(error.position, failed[0])
                self.assertEqual(whole(desk), before)
                self.assertRaises(CommandFailed, desk.do_all, *commands)
                self.assertEqual(whole(desk), before)
                continue
            self.assertEqual(whole(desk), before)
            self.assertEqual(desk.do_all(*commands), told)
            self.assertEqual(whole(desk), whole(twin))


if __name__ == "__main__":
    unittest.main()
