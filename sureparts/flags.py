"""Three flags in a room: by which sets every three flags are met, told by counts and by a web."""

from sureparts.basics import is_count
from sureparts.errors import InvalidLesser, InvalidMany, InvalidSets, InvalidSize
from sureparts.pairs import are_lackless, least_pair
from sureparts.rows import less
from sureparts.webs import Web

MOST_FLAG = 4
ARMS = 3


def _check_size(size):
    if not is_count(size) or size < 1 or size > MOST_FLAG:
        raise InvalidSize(size)


def are_sets(size, value):
    """Whether any value is sets of the size: three tuples of positions, all as long, each rising."""
    if not isinstance(value, tuple) or len(value) != ARMS:
        return False
    if not all([_is_rising(size, positions) for positions in value]):
        return False
    return len(value[0]) == len(value[1]) == len(value[2])


def _is_rising(size, value):
    if not isinstance(value, tuple) or not all([is_count(at) and at < size for at in value]):
        return False
    return all([at < late for at, late in zip(value, value[1:])])


def check_sets(size, sets):
    """Raise InvalidSets unless they are sets of the size."""
    if not are_sets(size, sets):
        raise InvalidSets(sets)


def _check_sets(size, sets):
    _check_size(size)
    check_sets(size, sets)


def _are_lesser(sets, value):
    """Whether any value is lesser sets of the sets."""
    return are_sets(len(sets[0]), value) and len(value[0]) > 0


def _check_lesser(size, sets, lesser):
    _check_sets(size, sets)
    if not _are_lesser(sets, lesser):
        raise InvalidLesser(lesser)


def flags_web(size):
    """The Web of three arms, each of one place fewer than the size, and the centre."""
    _check_size(size)
    centre = ARMS * (size - 1)
    arrows = []
    for at in range(ARMS):
        arm = list(range(at * (size - 1), (at + 1) * (size - 1))) + [centre]
        arrows.extend(list(zip(arm, arm[1:])))
    return Web(centre + 1, arrows)


def flags_row(size):
    """The row of three flags: 1, 2, .. along each arm, the size at the centre."""
    _check_size(size)
    return list(range(1, size)) * ARMS + [size]


def meeting_row(size, sets):
    """The row of what a room that meets by the sets has in common with the flags' rooms."""
    _check_sets(size, sets)
    return _meeting_row(size, sets)


def _meeting_row(size, sets):
    common = [len([at for at in positions if at <= place]) for positions in sets for place in range(size - 1)]
    return common + [len(sets[0])]


def taken(size, sets, lesser):
    """The lesser sets taken in the sets: sets of the size."""
    _check_lesser(size, sets, lesser)
    return _taken(sets, lesser)


def _taken(sets, lesser):
    return tuple([tuple([positions[at] for at in chosen]) for positions, chosen in zip(sets, lesser)])


def meeting_count(size, sets):
    """The count of the sets."""
    _check_sets(size, sets)
    return _lesser_count(size, sets, _one(len(sets[0])))


def _one(length):
    """The one sets of as many as they have positions."""
    return (tuple(range(length)),) * ARMS


def lesser_count(size, sets, lesser):
    """The lesser count of the lesser sets of the sets."""
    _check_lesser(size, sets, lesser)
    return _lesser_count(size, sets, lesser)


def _lesser_count(size, sets, lesser):
    left = size - len(sets[0])
    often = [left + at - positions[at] for positions, chosen in zip(sets, lesser) for at in chosen]
    return len(lesser[0]) * left - sum(often)


def is_meeting(size, sets):
    """Whether the sets are meeting."""
    _check_sets(size, sets)
    return _bar(size, sets, _lesser_meetings(len(sets[0]))) is None


def _bar(size, sets, lessers):
    """The first of the lesser sets that have a count below 0; None if there are none."""
    for lesser in lessers:
        if _lesser_count(size, sets, lesser) < 0:
            return lesser
    return None


def _lesser_meetings(length):
    """All meeting sets of so many, of each length from 1 on: the last ones, of all positions, tell the count."""
    return [sets for many in range(1, length + 1) for sets in _meetings(length, many)]


def meetings(size, many):
    """The sorted list of all meeting sets with so many positions."""
    _check_size(size)
    if not is_count(many) or many > size:
        raise InvalidMany(many)
    return _meetings(size, many)


def _meetings(size, many):
    # The one sets of all positions are meeting; to ask their lesser ones would be to ask for themselves.
    if many == size:
        return [_one(size)]
    rising = _rising(size, many)
    lessers = _lesser_meetings(many)
    told = [(first, second, third) for first in rising for second in rising for third in rising]
    return [sets for sets in told if _bar(size, sets, lessers) is None]


def _rising(size, many):
    """The sorted list of all rising tuples of so many positions below the size."""
    told = [()]
    for _ in range(many):
        told = [begun + (at,) for begun in told for at in range(size) if begun == () or begun[-1] < at]
    return told


def meeting_paper(size, sets):
    """("sure", F, G), if the sets are meeting, ("bar", lesser, N, M), if they aren't."""
    _check_sets(size, sets)
    web, row = flags_web(size), _meeting_row(size, sets)
    lesser = _bar(size, sets, _lesser_meetings(len(sets[0])))
    if lesser is None:
        filling, other = least_pair(web, row, less(flags_row(size), row), 0)
        return ("sure", filling, other)
    part = _meeting_row(size, _taken(sets, lesser))
    near, far = least_pair(web, part, less(row, part), 0)
    return ("bar", lesser, near, far)


def is_meeting_paper(size, sets, value):
    """Whether any value is a meeting paper of the sets."""
    _check_sets(size, sets)
    web, row = flags_web(size), _meeting_row(size, sets)
    if not isinstance(value, tuple) or len(value) not in (3, 4):
        return False
    if value[0] == "sure" and len(value) == 3:
        return are_lackless(web, row, less(flags_row(size), row), value[1], value[2])
    if value[0] == "bar" and len(value) == 4:
        return _shows_bar(web, size, sets, value[1:])
    return False


def _shows_bar(web, size, sets, shown):
    lesser, near, far = shown
    if not _are_lesser(sets, lesser) or _lesser_count(size, sets, lesser) >= 0:
        return False
    part = _meeting_row(size, _taken(sets, lesser))
    return are_lackless(web, part, less(_meeting_row(size, sets), part), near, far)
