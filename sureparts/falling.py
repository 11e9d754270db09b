"""In which one way rows fall into unsplit rows."""

from sureparts.basics import PRIME
from sureparts.fillings import Filling, check_filling, drawn_filling
from sureparts.pairs import lacks_nothing
from sureparts.rows import check_row, less
from sureparts.sure import least_lack, sure_below
from sureparts.unsplit import has_one_map
from sureparts.webs import check_web


def falls(web, row):
    """The sorted list of the rows that the row falls into, lists."""
    return [list(part) for part in sorted(_fallen(sure_below(web, row), tuple(row)))]


def _fallen(sure, row):
    """The rows that the row falls into, tuples; `sure` tells the sure parts of all that are at most it."""
    if not any(row):
        return []
    parts = sure[row]
    for part in parts:
        rest = tuple(less(row, part))
        # Each of two rows is a sure part of their sum just if they are apart.
        if any(part) and any(rest) and rest in parts:
            return _fallen(sure, part) + _fallen(sure, rest)
    return [row]


def are_apart(web, row, other):
    """Whether the least lack of each of the two rows with the other one is 0."""
    check_web(web)
    check_row(web, row)
    check_row(web, other)
    return max(least_lack(web, row, other), least_lack(web, other, row)) == 0


def falls_paper(web, row):
    """A falls paper of the row: a list of bricks."""
    parts = falls(web, row)
    many = 0
    # Drawn fillings are bricks, and apart, but where some polynomial of their rests is 0: few fail.
    while True:
        bricks = [drawn_filling(web, part, (many + at) % PRIME) for at, part in enumerate(parts)]
        if _are_bricks_apart(bricks):
            return bricks
        many += len(parts)


def _are_bricks_apart(fillings):
    return all([has_one_map(filling) for filling in fillings]) and _lack_nothing(fillings)


def _lack_nothing(fillings):
    """Whether each of them lacks nothing with each other one."""
    for at, filling in enumerate(fillings):
        if not all([lacks_nothing(filling, other) for other in fillings[:at] + fillings[at + 1:]]):
            return False
    return True


def is_falls_paper(web, row, value):
    """Whether any value is a falls paper of the row."""
    check_web(web)
    check_row(web, row)
    if not isinstance(value, (list, tuple)):
        return False
    rows = _filled_rows(web, value)
    if rows is None or rows != sorted(rows):
        return False
    if [sum([part[place] for part in rows]) for place in range(web.places)] != list(row):
        return False
    return _are_bricks_apart(list(value))


def _filled_rows(web, value):
    """The rows of the fillings in the list, but None if something else is in it, or fillings of other webs."""
    rows = []
    for filling in value:
        if not isinstance(filling, Filling) or filling.web() != web:
            return None
        rows.append(filling.row())
    return rows


def is_brick(filling):
    """Whether the filling is a brick."""
    check_filling(filling)
    return has_one_map(filling)
