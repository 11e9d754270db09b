"""Rows of a web: a size for each place."""

from sureparts.basics import is_count
from sureparts.errors import InvalidRow, TooMany
from sureparts.webs import check_place, check_web

MOST_ROW = 6
MOST_SUM = 24
MOST_BELOW = 400


def is_row(web, value):
    """Whether any value is a row of the web."""
    check_web(web)
    if not isinstance(value, (list, tuple)) or len(value) != web.places:
        return False
    return all([is_count(size) and size <= MOST_ROW for size in value]) and sum(value) <= MOST_SUM


def check_row(web, row):
    """Raise InvalidRow unless it is a row of the web."""
    if not is_row(web, row):
        raise InvalidRow(row)


def check_sizes(sizes):
    """Raise TooMany unless COUNTS, one for each place of a web, are a row of it."""
    if any([size > MOST_ROW for size in sizes]):
        raise TooMany("row", MOST_ROW)
    if sum(sizes) > MOST_SUM:
        raise TooMany("sum", MOST_SUM)


def is_at_most(row, whole):
    """Whether each size of the row is at most that of the whole one."""
    return all([size <= most for size, most in zip(row, whole)])


def less(whole, row):
    """The whole row less the row, place by place."""
    return [most - size for most, size in zip(whole, row)]


def form(web, row, other):
    """The form of row and other, in this sequence."""
    check_web(web)
    check_row(web, row)
    check_row(web, other)
    at_places = sum([size * late for size, late in zip(row, other)])
    return at_places - sum([row[tail] * other[head] for tail, head in web.arrows()])


def rows_below(web, row):
    """The sorted list of the rows that are at most row, lists."""
    check_web(web)
    check_row(web, row)
    many = 1
    for size in row:
        many = many * (size + 1)
    if many > MOST_BELOW:
        raise TooMany("rows", MOST_BELOW)
    below = [[]]
    for size in row:
        below = [begun + [less] for begun in below for less in range(size + 1)]
    return below


def simple_row(web, place):
    """The row with 1 at the place, 0 elsewhere."""
    check_web(web)
    check_place(web, place)
    return [1 if other == place else 0 for other in range(web.places)]


def ways_row(web, place):
    """The row that has at each place how many ways lead there from the place."""
    check_web(web)
    check_place(web, place)
    row = [len(web.ways(place, other)) for other in range(web.places)]
    check_sizes(row)
    return row
