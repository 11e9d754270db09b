"""What a desk keeps: things under names, claims under labels, and the states of these."""

from sureparts.claims import is_claim, is_true
from sureparts.commands import claim_kinds
from sureparts.errors import LabelTaken, NameTaken, TooMany, UnknownLabel, UnknownName, UnlikeWebs

SORTS = ("web", "row", "weight", "filling")
GONE = "gone"


class Thing:
    """What is kept under a name: its sort, the name of the web that it is of (None of a web), and itself."""

    def __init__(self, kind, of, value):
        self.kind = kind
        self.of = of
        self.value = value


class Kept:
    """All that is kept at a time: Things by names, and by labels what is noted, and its claim with the state."""

    def __init__(self, things, notes, judged):
        # None of the three is ever changed: an earlier time is had back by keeping what was kept then.
        self.things = things
        self.notes = notes
        self.judged = judged


def kept_now(things, notes, judged):
    """All that is kept, with the claims judged anew but where an earlier one of the label was equal."""
    now = {}
    for label in notes:
        claim = noted_claim(things, notes[label])
        if label in judged and judged[label][0] == claim:
            now[label] = judged[label]
        else:
            now[label] = (claim, _state(claim))
    return Kept(things, notes, now)


def _state(claim):
    """The state of a label with this claim, None where there is none."""
    if claim is None:
        return GONE
    try:
        return "true" if is_true(claim) else "false"
    except TooMany:
        return GONE


def noted_claim(things, note):
    """The claim that the note, a word and what it wants, tells of the things; None if there is none now."""
    parts = list(zip(claim_kinds(note[0]), note[1:]))
    if missing_name(things, parts) is not None or not have_like_webs(things, parts):
        return None
    claim = told_claim(things, note)
    return claim if is_claim(claim) else None


def told_claim(things, note):
    """The tuple that the note tells of the things, which are all there, of webs that are equal."""
    web = web_of(things, note[1])
    return (note[0], web) + tuple([told_value(things[part]) if isinstance(part, str) else part for part in note[1:]])


def told_value(thing):
    """The Web or the Filling that is kept; the row or the weight as a new list."""
    return list(thing.value) if isinstance(thing.value, list) else thing.value


def web_of(things, name):
    """The web that is kept under the name, or that the thing under it is of."""
    thing = things[name]
    return thing.value if thing.of is None else things[thing.of].value


def check_names(kept, parts):
    """Raise what the names and labels of a command, parts (kind, what it tells), have wrong."""
    for kind, told in parts:
        if kind == "NEW" and told in kept.things:
            raise NameTaken(told)
        if kind == "NOTED" and told in kept.notes:
            raise LabelTaken(told)
    missing = missing_name(kept.things, parts)
    if missing is not None:
        raise UnknownName(missing)
    for kind, told in parts:
        if kind == "LABEL":
            check_label(kept, told)
    if not have_like_webs(kept.things, parts):
        raise UnlikeWebs()


def check_label(kept, label):
    """Raise UnknownLabel unless a claim is noted under the label, which may be any value."""
    if not isinstance(label, str) or label not in kept.notes:
        raise UnknownLabel(label)


def missing_name(things, parts):
    """The first name in the parts under which nothing of the wanted sort is kept; None if there is none."""
    ahead = None
    for kind, told in parts:
        if kind in SORTS or kind in ("name", "other"):
            if told not in things or (kind in SORTS and things[told].kind != kind):
                return told
            if kind == "other" and things[told].kind != things[ahead].kind:
                return told
            ahead = told
    return None


def have_like_webs(things, parts):
    """Whether the rows, weights and fillings that the parts name are all of equal webs."""
    webs = [web_of(things, told) for kind, told in parts if kind in ("row", "weight", "filling")]
    return all([web == webs[0] for web in webs])
