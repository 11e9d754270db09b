"""Weights of rows, ways of weights, and the squares that they make of a filling."""

from sureparts.basics import PRIME, is_integer, is_rest
from sureparts.errors import InvalidNumbers, InvalidWeight, NotLevel, TooMany
from sureparts.fillings import check_filling, drawn_filling, drawn_rests
from sureparts.pairs import is_filling_of, shown_bar, shows_sure
from sureparts.reduced import rank
from sureparts.rows import check_row
from sureparts.sure import sure_parts
from sureparts.tables import Table
from sureparts.webs import check_web

MOST_WEIGHT = 6
MOST_WAYS = 400


def is_weight(web, value):
    """Whether any value is a weight of the web."""
    if not isinstance(value, (list, tuple)) or len(value) != web.places:
        return False
    return all([is_integer(number) and abs(number) <= MOST_WEIGHT for number in value])


def check_weight(web, weight):
    """Raise InvalidWeight unless it is a weight of the web."""
    if not is_weight(web, weight):
        raise InvalidWeight(weight)


def check_weighed(web, weight, row):
    """Raise what is raised of a web, a weight and a row that aren't valid."""
    check_web(web)
    check_weight(web, weight)
    check_row(web, row)


def weighs(web, weight, row):
    """What the row weighs by the weight."""
    check_weighed(web, weight, row)
    return weighed(weight, row)


def weighed(weight, row):
    """The sum, over the places, of weight times size."""
    return sum([number * size for number, size in zip(weight, row)])


def is_steady(web, weight, row):
    """Whether the row is steady by the weight."""
    check_weighed(web, weight, row)
    return _tilting(web, weight, row) is None and weighed(weight, row) == 0


def _tilting(web, weight, row):
    """The first sure part of the row that weighs above 0; None if there is none."""
    for part in sure_parts(web, row):
        if weighed(weight, part) > 0:
            return part
    return None


def _far_copies(weight):
    """The places of the far copies, in their sequence."""
    return [place for place, number in enumerate(weight) for _ in range(-number)]


def _near_copies(weight):
    """The places of the near copies, in their sequence."""
    return [place for place, number in enumerate(weight) for _ in range(number)]


def _ways_many(web, weight):
    """How many ways the weight has."""
    places = range(web.places)
    return sum([-weight[far] * weight[near] * len(web.ways(near, far))
                for far in places if weight[far] < 0 for near in places if weight[near] > 0])


def _check_ways(web, weight):
    if _ways_many(web, weight) > MOST_WAYS:
        raise TooMany("numbers", MOST_WAYS)


def weight_ways(web, weight):
    """The sorted list of the ways of the weight, tuples (far copy, near copy, way)."""
    check_web(web)
    check_weight(web, weight)
    _check_ways(web, weight)
    return _all_ways(web, weight)


def _all_ways(web, weight):
    near = list(enumerate(_near_copies(weight)))
    return [(at, other, way) for at, far in enumerate(_far_copies(weight)) for other, place in near
            for way in web.ways(place, far)]


def square(filling, weight, numbers):
    """The square of ways of the filling, with a number for each way of the weight."""
    check_filling(filling)
    check_weight(filling.web(), weight)
    _check_ways(filling.web(), weight)
    if not _are_numbers(_ways_many(filling.web(), weight), numbers):
        raise InvalidNumbers(numbers)
    return _square(filling, weight, numbers)


def _are_numbers(many, value):
    if not isinstance(value, (list, tuple)) or len(value) != many:
        return False
    return all([is_rest(number) for number in value])


def _square(filling, weight, numbers):
    row = filling.row()
    tops = _starts(row, _far_copies(weight))
    lefts = _starts(row, _near_copies(weight))
    rows = [[0] * lefts[-1] for _ in range(tops[-1])]
    led = {}
    for (far, near, way), number in zip(_all_ways(filling.web(), weight), numbers):
        if way not in led:
            led[way] = filling.along(way).rows()
        for high, line in enumerate(led[way]):
            for column, rest in enumerate(line):
                at = lefts[near] + column
                rows[tops[far] + high][at] = (rows[tops[far] + high][at] + number * rest) % PRIME
    return Table(tops[-1], lefts[-1], rows)


def _starts(row, places):
    """Where the block of each copy, of these places, begins, and last where all of them end."""
    starts = [0]
    for place in places:
        starts.append(starts[-1] + row[place])
    return starts


def _check_level(web, weight, row):
    check_weighed(web, weight, row)
    if weighed(weight, row) != 0:
        raise NotLevel()


def weight_paper(web, weight, row):
    """("square", F, numbers), whose square can be undone, or ("bar", d, N, M), d a sure part that weighs above 0."""
    _check_level(web, weight, row)
    part = _tilting(web, weight, row)
    if part is not None:
        return shown_bar(web, part, row)
    _check_ways(web, weight)
    length = _ways_many(web, weight)
    many = 0
    # All drawn squares can be undone but those for which some polynomial is 0: few can't.
    while True:
        filling = drawn_filling(web, row, many % PRIME)
        numbers = drawn_rests(length, (many + many // PRIME + 1) % PRIME)
        if _has_full_square(filling, weight, numbers):
            return ("square", filling, numbers)
        many += 1


def _has_full_square(filling, weight, numbers):
    """Whether the square of a filling whose row weighs 0 can be undone."""
    told = _square(filling, weight, numbers)
    return rank(told) == told.tall


def is_weight_paper(web, weight, row, value):
    """Whether any value is a weight paper of the weight and the row."""
    _check_level(web, weight, row)
    if not isinstance(value, tuple) or len(value) not in (3, 4):
        return False
    if value[0] == "square" and len(value) == 3:
        filling, numbers = value[1:]
        if not is_filling_of(web, row, filling) or not _are_numbers(_ways_many(web, weight), numbers):
            return False
        return _has_full_square(filling, weight, numbers)
    if value[0] == "bar" and len(value) == 4:
        return shows_sure(web, value[1], row, value[2], value[3]) and weighed(weight, value[1]) > 0
    return False
