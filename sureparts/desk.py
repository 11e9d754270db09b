"""A desk: what is kept under names, claims under labels, deeds that are taken back and done again."""

from sureparts.answers import answer, changes, note_text
from sureparts.claims import contrary, is_paper_of
from sureparts.commands import DEEDS, is_deed, told_parts
from sureparts.deeds import done
from sureparts.errors import (CommandFailed, InvalidCommand, InvalidDeeds, InvalidPaper, LimitError, MissingError,
                              NothingToRedo, NothingToUndo, StateError, TooMany, UnknownName, WebError)
from sureparts.kept import GONE, Kept, check_label, check_names, noted_claim, told_value

MOST_DEEDS = 200


class Moment:
    """All of a desk at a time: what is kept, the deeds behind and those taken back, and the papers by labels."""

    def __init__(self, kept, past, later, papers):
        # None of these is ever changed: a desk goes on by another Moment.
        self.kept = kept
        self.past = past
        self.later = later
        self.papers = papers


class Desk:
    """A desk, at which commands are done."""

    def __init__(self):
        self._moment = Moment(Kept({}, {}, {}), [], [], {})

    @property
    def names(self):
        """The sorted list of the names under which something is kept."""
        return sorted(list(self._moment.kept.things))

    @property
    def labels(self):
        """The sorted list of the labels under which a claim is noted."""
        return sorted(list(self._moment.kept.notes))

    def __len__(self):
        return len(self._moment.past)

    def __contains__(self, x):
        return isinstance(x, str) and x in self._moment.kept.things

    def __getitem__(self, at):
        if not isinstance(at, str) or at not in self._moment.kept.things:
            raise UnknownName(at)
        return told_value(self._moment.kept.things[at])

    def __iter__(self):
        raise TypeError("a desk is not iterated over")

    def __call__(self, command):
        return self.do(command)

    def claim_of(self, label):
        """The claim of the label as a tuple; None while it isn't one."""
        kept = self._moment.kept
        check_label(kept, label)
        return noted_claim(kept.things, kept.notes[label])

    def do(self, command):
        """The answer to the command, a string, when it is done."""
        parts = told_parts(command)
        if parts is None:
            raise InvalidCommand(command)
        check_names(self._moment.kept, parts)
        word = command.split(" ")[0]
        told = [part for _, part in parts]
        if word in DEEDS:
            return self._deed(command, word, told)
        if word == "undo":
            return self._undo()
        if word == "redo":
            return self._redo()
        return answer(self._moment.kept, word, told)

    def _deed(self, line, word, told):
        now = self._moment
        kept = done(now.kept, word, told)
        if len(now.past) >= MOST_DEEDS:
            raise TooMany("deeds", MOST_DEEDS)
        self._moment = Moment(kept, now.past + [(line, now.kept)], [], now.papers)
        return changes(now.kept, kept)

    def _undo(self):
        now = self._moment
        if not now.past:
            raise NothingToUndo()
        line, before = now.past[-1]
        self._moment = Moment(before, now.past[:-1], now.later + [(line, now.kept)], now.papers)
        return line

    def _redo(self):
        now = self._moment
        if not now.later:
            raise NothingToRedo()
        line, behind = now.later[-1]
        self._moment = Moment(behind, now.past + [(line, now.kept)], now.later[:-1], now.papers)
        return line

    def do_all(self, *commands):
        """The list of the answers to the commands; if one fails, all is as before."""
        before = self._moment
        told = []
        for at, command in enumerate(commands):
            try:
                told.append(self.do(command))
            except (WebError, MissingError, StateError, LimitError) as error:
                self._moment = before
                raise CommandFailed(at) from error
        return told

    def attempt(self, *commands):
        """The list of the answers to the commands; all is as before even so."""
        with Trial(self):
            return self.do_all(*commands)

    def attach(self, label, paper):
        """Keep a paper of the label's claim, or of its contrary, with the label."""
        now = self._moment
        check_label(now.kept, label)
        claim, state = now.kept.judged[label]
        if state == GONE:
            raise InvalidPaper(paper)
        shows = _is_shown(claim, paper)
        if not shows and not _is_shown(contrary(claim), paper):
            raise InvalidPaper(paper)
        papers = {other: now.papers[other] for other in now.papers}
        papers[label] = (note_text(now.kept.notes[label]), shows, _copied(paper))
        self._moment = Moment(now.kept, now.past, now.later, papers)

    def fits(self, label):
        """Whether a paper of the label's claim as it is worded now is kept, and still is one of what it was for."""
        now = self._moment
        check_label(now.kept, label)
        claim, state = now.kept.judged[label]
        if state == GONE or label not in now.papers:
            return False
        words, shows, paper = now.papers[label]
        if words != note_text(now.kept.notes[label]):
            return False
        return _is_shown(claim if shows else contrary(claim), paper)

    def lines(self):
        """The list of the lines of the deeds that are not taken back."""
        return [line for line, _ in self._moment.past]

    def copy(self):
        """A desk that goes on by itself, with all of this one."""
        twin = Desk()
        twin._moment = self._moment
        return twin

    @classmethod
    def again(cls, lines):
        """A desk that has done these deeds."""
        if not isinstance(lines, (list, tuple)):
            raise InvalidDeeds(None)
        for at, line in enumerate(lines):
            if not is_deed(line):
                raise InvalidDeeds(at)
        desk = cls()
        desk.do_all(*lines)
        return desk


def _is_shown(claim, paper):
    """Whether any value is a paper of the claim; none is where a judge would find too many."""
    try:
        return is_paper_of(claim, paper)
    except TooMany:
        return False


def _copied(paper):
    """The paper with lists of its own, which nobody else changes."""
    return tuple([list(part) if isinstance(part, list) else part for part in paper])


class Mark:
    """A Moment to which a Trial goes back, and the Mark ahead of it, as a Trial may begin within itself."""

    def __init__(self, moment, ahead):
        self.moment = moment
        self.ahead = ahead


class Trial:
    """A block behind which all of the desk is as it was when the block began."""

    def __init__(self, desk):
        self._desk = desk
        self._mark = None

    def __enter__(self):
        self._mark = Mark(self._desk._moment, self._mark)
        return self._desk

    def __exit__(self, kind, value, trace):
        desk = self._desk
        desk._moment = self._mark.moment
        self._mark = self._mark.ahead


def tried(desk, action):
    """What the function returns when it is called with the desk, behind which all is as before."""
    with Trial(desk) as held:
        return action(held)
