"""Slopes of rows by a weight, and the steps that a row is made of."""

from math import gcd

from sureparts.errors import IsNought
from sureparts.rows import is_row, less
from sureparts.sure import sure_below
from sureparts.weights import check_weighed, weighed


def slope(web, weight, row):
    """The slope of the row, a tuple (top, bottom) in lowest terms."""
    check_weighed(web, weight, row)
    if not any(row):
        raise IsNought()
    top, bottom = weighed(weight, row), sum(row)
    common = gcd(top, bottom)
    return (top // common, bottom // common)


def _is_steeper(weight, row, other):
    """Whether the slope of the row is greater than that of the other one."""
    return weighed(weight, row) * sum(other) > weighed(weight, other) * sum(row)


def is_even(web, weight, row):
    """Whether the row isn't noughts, and no sure part of it has a greater slope."""
    check_weighed(web, weight, row)
    parts = _parts_but_noughts(sure_below(web, row), row)
    return any(row) and not any([_is_steeper(weight, part, row) for part in parts])


def is_stable(web, weight, row):
    """Whether the row isn't noughts, and each further sure part of it has a lesser slope."""
    check_weighed(web, weight, row)
    parts = _parts_but_noughts(sure_below(web, row), row)
    return any(row) and all([_is_steeper(weight, row, part) for part in parts if part != tuple(row)])


def _parts_but_noughts(sure, row):
    return [part for part in sure[tuple(row)] if any(part)]


def _steepest(sure, weight, row):
    """The sorted list of the steepest sure parts of a row that isn't noughts, tuples."""
    best = []
    for part in _parts_but_noughts(sure, row):
        if not best or _is_steeper(weight, part, best[0]):
            best = [part]
        elif not _is_steeper(weight, best[0], part):
            best.append(part)
    return best


def steepest(web, weight, row):
    """The sorted list of the steepest sure parts of the row, lists."""
    check_weighed(web, weight, row)
    if not any(row):
        raise IsNought()
    return [list(part) for part in _steepest(sure_below(web, row), weight, row)]


def first_step(web, weight, row):
    """The greatest of the steepest sure parts of the row."""
    # One of them is at least each other one, and so it is the last one of all, sorted.
    return steepest(web, weight, row)[-1]


def steps(web, weight, row):
    """The list of the steps of the row, lists."""
    check_weighed(web, weight, row)
    sure = sure_below(web, row)
    told = []
    left = tuple(row)
    while any(left):
        step = _steepest(sure, weight, left)[-1]
        told.append(list(step))
        left = tuple(less(left, step))
    return told


def corners(web, weight, row):
    """The list of the corners of the row: the sums of its first steps, lists."""
    told = steps(web, weight, row)
    sums = [[0] * web.places]
    for step in told:
        sums.append([size + more for size, more in zip(sums[-1], step)])
    return sums


def is_steps(web, weight, row, value):
    """Whether any value is the list of the steps of the row."""
    told = steps(web, weight, row)
    if not isinstance(value, (list, tuple)) or not all([is_row(web, step) for step in value]):
        return False
    return [list(step) for step in value] == told
