"""The deeds: what is kept when one is done."""

from sureparts.basics import check_rest
from sureparts.claims import is_claim
from sureparts.errors import InvalidArrow, InvalidClaim, InvalidEntry, IsUsed, TooMany
from sureparts.fillings import Filling, both, drawn_filling
from sureparts.kept import Thing, kept_now, told_claim
from sureparts.rows import check_row
from sureparts.tables import Table, nought
from sureparts.webs import Web, check_place, turned_web
from sureparts.weights import check_weight

MOST_NAMES = 12
MOST_LABELS = 8


def done(kept, word, told):
    """All that is kept when the deed of this word, with what its parts tell, is done; its names are right."""
    things, notes = kept.things, kept.notes
    if word == "claim":
        notes = _noted(kept, told)
    elif word == "forget":
        notes = {label: notes[label] for label in notes if label != told[0]}
    else:
        action = ACTIONS[word]
        things = action(things, told)
    if len(things) > MOST_NAMES:
        raise TooMany("names", MOST_NAMES)
    if len(notes) > MOST_LABELS:
        raise TooMany("labels", MOST_LABELS)
    return kept_now(things, notes, kept.judged)


def _noted(kept, told):
    label, note = told[0], tuple(told[1:])
    claim = told_claim(kept.things, note)
    if not is_claim(claim):
        raise InvalidClaim(claim)
    return _with(kept.notes, label, note)


def _with(told, key, value):
    """The dict with this value, too, or in the place of the one that it had."""
    more = {other: told[other] for other in told}
    more[key] = value
    return more


def _web(things, told):
    name, places, arrows = told
    return _with(things, name, Thing("web", None, Web(places, arrows)))


def _row(things, told):
    name, of, sizes = told
    return _numbered(things, name, "row", of, sizes)


def _weight(things, told):
    name, of, numbers = told
    return _numbered(things, name, "weight", of, numbers)


def _numbered(things, name, kind, of, numbers):
    """The things with these numbers as a row, or as a weight, under the name."""
    if kind == "row":
        check_row(things[of].value, numbers)
    else:
        check_weight(things[of].value, numbers)
    return _with(things, name, Thing(kind, of, numbers))


def _filling(things, told):
    name, of, sizes, many = told
    return _with(things, name, Thing("filling", of, drawn_filling(things[of].value, sizes, many)))


def _arrow(things, told):
    of, tail, head = told
    web = things[of].value
    longer = Web(web.places, web.arrows() + [(tail, head)])
    return _rewoven(things, of, longer, lambda row, tables: tables + [nought(row[head], row[tail])])


def _strike(things, told):
    of, at = told
    web = things[of].value
    if at >= web.many:
        raise InvalidArrow(at)
    shorter = Web(web.places, _without(web.arrows(), at))
    return _rewoven(things, of, shorter, lambda row, tables: _without(tables, at))


def _without(told, at):
    return told[:at] + told[at + 1:]


def _rewoven(things, of, web, change):
    """The things with this web under its name, and the tables of its fillings changed so, told row and tables."""
    more = _with(things, of, Thing("web", None, web))
    for name in things:
        thing = things[name]
        if thing.of == of and thing.kind == "filling":
            row = thing.value.row()
            more[name] = Thing("filling", of, Filling(web, row, change(row, thing.value.tables())))
    return more


def _number(things, told):
    """What a row's `size` and a weight's `load` make."""
    name, place, number = told
    thing = things[name]
    check_place(things[thing.of].value, place)
    return _numbered(things, name, thing.kind, thing.of, _put(thing.value, place, number))


def _put(told, at, value):
    """The list with this value at the position."""
    return told[:at] + [value] + told[at + 1:]


def _entry(things, told):
    name, at, spot, rest = told
    filling = things[name].value
    tables = filling.tables()
    if at >= len(tables):
        raise InvalidArrow(at)
    if len(spot) != 2 or spot[0] >= tables[at].tall or spot[1] >= tables[at].wide:
        raise InvalidEntry(spot)
    check_rest(rest)
    rows = tables[at].rows()
    rows[spot[0]][spot[1]] = rest
    table = Table(tables[at].tall, tables[at].wide, rows)
    changed = Filling(filling.web(), filling.row(), _put(tables, at, table))
    return _with(things, name, Thing("filling", things[name].of, changed))


def _both(things, told):
    name, first, second = told
    side = both(things[first].value, things[second].value)
    return _with(things, name, Thing("filling", things[first].of, side))


def _turn(things, told):
    name, of = told
    return _with(things, name, Thing("web", None, turned_web(things[of].value)))


def _copy(things, told):
    name, other = told
    return _with(things, name, things[other])


def _drop(things, told):
    name = told[0]
    users = sorted([other for other in things if things[other].of == name])
    if users:
        raise IsUsed(users[0])
    return {other: things[other] for other in things if other != name}


ACTIONS = {
    "web": _web, "row": _row, "weight": _weight, "filling": _filling, "arrow": _arrow, "strike": _strike,
    "size": _number, "load": _number, "entry": _entry, "both": _both, "turn": _turn, "copy": _copy, "drop": _drop,
}
