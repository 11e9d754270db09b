"""What the commands that are no deeds answer, and how what has changed is told."""

from sureparts.falling import falls
from sureparts.kept import web_of
from sureparts.maps import lack, maps_many
from sureparts.rows import form
from sureparts.steps import steps
from sureparts.sure import least_lack, sure_parts

NONE = "-"


def changes(before, kept):
    """How the states changed: of what is kept now the labels that are new, or have another state than before."""
    changed = [label for label in kept.judged
               if label not in before.judged or before.judged[label][1] != kept.judged[label][1]]
    return _states_text(kept, changed)


def _states_text(kept, labels):
    return ", ".join([label + " " + kept.judged[label][1] for label in sorted(labels)]) or NONE


def note_text(note):
    """The claim that is noted, in the words behind its label."""
    return " ".join([str(part) for part in note])


def answer(kept, word, told):
    """What the command of this word, with what its parts tell, answers; its names are right."""
    action = ACTIONS[word]
    return action(kept, told)


def _state(kept, told):
    return kept.judged[told[0]][1]


def _states(kept, told):
    return _states_text(kept, list(kept.judged))


def _claimed(kept, told):
    return note_text(kept.notes[told[0]])


def _names(kept, told):
    return " ".join(sorted(list(kept.things))) or NONE


def _of(kept, told):
    return kept.things[told[0]].of or NONE


def _show(kept, told):
    thing = kept.things[told[0]]
    if thing.kind == "web":
        return _web_text(thing.value)
    if thing.kind == "filling":
        return " ".join([_list_text(thing.value.row())] + [_table_text(table) for table in thing.value.tables()])
    return _list_text(thing.value)


def _web_text(web):
    arrows = ",".join([str(tail) + ">" + str(head) for tail, head in web.arrows()])
    return str(web.places) + " " + (arrows or NONE)


def _table_text(table):
    return NONE if table.tall == 0 or table.wide == 0 else _lists_text(table.rows())


def _list_text(numbers):
    return ",".join([str(number) for number in numbers])


def _lists_text(lists):
    return "/".join([_list_text(numbers) for numbers in lists]) or NONE


def _same(kept, told):
    name, other = told
    alike = web_of(kept.things, name) == web_of(kept.things, other)
    return "yes" if alike and kept.things[name].value == kept.things[other].value else "no"


def _form(kept, told):
    web, row, other = _web_and_values(kept, told)
    return str(form(web, row, other))


def _least(kept, told):
    web, row, other = _web_and_values(kept, told)
    return str(least_lack(web, row, other))


def _maps(kept, told):
    _, filling, other = _web_and_values(kept, told)
    return str(maps_many(filling, other))


def _lack(kept, told):
    _, filling, other = _web_and_values(kept, told)
    return str(lack(filling, other))


def _sure(kept, told):
    web, row = _web_and_values(kept, told)
    return _lists_text(sure_parts(web, row))


def _falls(kept, told):
    web, row = _web_and_values(kept, told)
    return _lists_text(falls(web, row))


def _steps(kept, told):
    web, weight, row = _web_and_values(kept, told)
    return _lists_text(steps(web, weight, row))


def _web_and_values(kept, told):
    """The web that all things under the names are of, and these things."""
    return [web_of(kept.things, told[0])] + [kept.things[name].value for name in told]


ACTIONS = {
    "state": _state, "states": _states, "claimed": _claimed, "names": _names, "of": _of, "show": _show, "same": _same,
    "form": _form, "least": _least, "maps": _maps, "lack": _lack, "sure": _sure, "falls": _falls, "steps": _steps,
}
