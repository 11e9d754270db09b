"""Sums of three falling lists: those that fit have a hive, the others a bar."""

from sureparts.basics import is_integer
from sureparts.errors import InvalidThree
from sureparts.flags import are_sets, check_sets, is_meeting, meetings

MOST_LONG = 4
MOST_NUMBER = 9


def _check_three(three):
    if not _are_three(three):
        raise InvalidThree(three)


def _are_three(value):
    if not isinstance(value, tuple) or len(value) != 3 or not all([_is_falling(told) for told in value]):
        return False
    return len(value[0]) == len(value[1]) == len(value[2]) and sum([sum(told) for told in value]) == 0


def _is_falling(value):
    if not isinstance(value, (list, tuple)) or len(value) < 1 or len(value) > MOST_LONG:
        return False
    if not all([is_integer(number) and abs(number) <= MOST_NUMBER for number in value]):
        return False
    return all([number >= late for number, late in zip(value, value[1:])])


def sum_at(three, sets):
    """The sum of the lists' numbers at the positions of the sets."""
    _check_three(three)
    check_sets(len(three[0]), sets)
    return _sum_at(three, sets)


def _sum_at(three, sets):
    return sum([told[at] for told, positions in zip(three, sets) for at in positions])


def is_fit(three):
    """Whether the three lists fit."""
    return fit_bar(three) is None


def fit_bar(three):
    """The first meeting sets, of fewer than all positions, whose sum is above 0; None if there are none."""
    _check_three(three)
    size = len(three[0])
    for length in range(1, size):
        for sets in meetings(size, length):
            if _sum_at(three, sets) > 0:
                return sets
    return None


def is_hive(three, value):
    """Whether any value is a hive of the three lists."""
    _check_three(three)
    size = len(three[0])
    if not isinstance(value, (list, tuple)) or len(value) != size + 1:
        return False
    if not all([_is_hive_row(size + 1 - at, row) for at, row in enumerate(value)]):
        return False
    heights = {(at, inner): height for at, row in enumerate(value) for inner, height in enumerate(row)}
    rim = _rim(three)
    return all([heights[spot] == rim[spot] for spot in rim]) and _is_level(size, heights)


def _is_hive_row(length, value):
    return isinstance(value, (list, tuple)) and len(value) == length and all([is_integer(told) for told in value])


def _rim(three):
    """What stands at each spot around a hive of the three lists."""
    size = len(three[0])
    steps = range(1, size + 1)
    spots = [(0, at) for at in steps] + [(at, size - at) for at in steps] + [(size - at, 0) for at in steps]
    rim = {}
    height = 0
    for spot, number in zip(spots, [number for told in three for number in told]):
        height += number
        rim[spot] = height
    return rim


def _is_spot(size, spot):
    return spot[0] >= 0 and spot[1] >= 0 and spot[0] + spot[1] <= size


def _rhombs(size):
    """All tuples of two neighbours and, behind these, their two common neighbours."""
    told = []
    for at in range(size + 1):
        for inner in range(size + 1 - at):
            told.append(((at, inner), (at, inner + 1), (at + 1, inner), (at - 1, inner + 1)))
            told.append(((at, inner), (at + 1, inner), (at, inner + 1), (at + 1, inner - 1)))
            told.append(((at, inner + 1), (at + 1, inner), (at, inner), (at + 1, inner + 1)))
    return [rhomb for rhomb in told if all([_is_spot(size, spot) for spot in rhomb])]


def _is_level(size, heights):
    """Whether each two neighbours with two common ones are together at least these together."""
    for one, other, left, right in _rhombs(size):
        if heights[one] + heights[other] < heights[left] + heights[right]:
            return False
    return True


def hive_of(three):
    """A hive of the three lists; None if they don't fit."""
    _check_three(three)
    size = len(three[0])
    rim = _rim(three)
    inner = [(at, told) for at in range(size) for told in range(size - at) if (at, told) not in rim]
    heights = _raised(size, rim, inner)
    if heights is None:
        return None
    return [[heights[(at, told)] for told in range(size + 1 - at)] for at in range(size + 1)]


def _raised(size, heights, left):
    """The heights with such at the spots that are left that all is level; None if there are none."""
    if left == []:
        return heights if _is_level(size, heights) else None
    spot = left[0]
    low, high = _bounds(size, heights, spot)
    for height in range(low, high + 1):
        more = {other: heights[other] for other in heights}
        more[spot] = height
        told = _raised(size, more, left[1:])
        if told is not None:
            return told
    return None


def _bounds(size, heights, spot):
    """The least and the greatest height at the spot by the heights that are known."""
    # Each spot within has, of up to four to a side, bounds from the rim alone: both lists have something.
    least, most = [], []
    for rhomb in _rhombs(size):
        if spot in rhomb and all([other == spot or other in heights for other in rhomb]):
            one, other, left, right = [0 if told == spot else heights[told] for told in rhomb]
            bound = left + right - one - other
            if spot in rhomb[:2]:
                least.append(bound)
            else:
                most.append(-bound)
    return max(least), min(most)


def fit_paper(three):
    """("hive", a hive), if the three lists fit, ("bar", their bar), if they don't."""
    bar = fit_bar(three)
    if bar is None:
        return ("hive", hive_of(three))
    return ("bar", bar)


def is_fit_paper(three, value):
    """Whether any value is a hive, or meeting sets whose sum is above 0, with its word ahead."""
    _check_three(three)
    if not isinstance(value, tuple) or len(value) != 2:
        return False
    if value[0] == "hive":
        return is_hive(three, value[1])
    return value[0] == "bar" and _is_bar(three, value[1])


def _is_bar(three, sets):
    size = len(three[0])
    if not are_sets(size, sets) or len(sets[0]) == size:
        return False
    return is_meeting(size, sets) and _sum_at(three, sets) > 0
