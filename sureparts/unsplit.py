"""Unsplit rows: those with a filling that has no maps to itself but the unit map's multiples."""

from sureparts.errors import IsNought
from sureparts.maps import any_maps, check_both_size
from sureparts.pairs import first_drawn, is_filling_of, shown_bar, shows_sure
from sureparts.rows import check_row, form
from sureparts.sure import sure_parts
from sureparts.webs import check_web


def has_one_map(filling):
    """Whether the filling has just 1 map to itself: so it isn't of the row of noughts, and is a brick."""
    return any_maps(filling, filling) == 1


def _splits(web, part, row):
    """Whether a sure part of the row bars, by its sizes, that the row is unsplit."""
    return any(part) and list(part) != list(row) and form(web, part, row) <= form(web, row, part)


def _splitting(web, row):
    """The first sure part of the row that bars that it is unsplit; None if there is none."""
    for part in sure_parts(web, row):
        if _splits(web, part, row):
            return part
    return None


def is_unsplit(web, row):
    """Whether the row is unsplit."""
    check_web(web)
    check_row(web, row)
    return any(row) and _splitting(web, row) is None


def unsplit_paper(web, row):
    """("brick", F), F a brick of the row, or a split bar of it, ("bar", d, N, M)."""
    check_web(web)
    check_row(web, row)
    if not any(row):
        raise IsNought()
    part = _splitting(web, row)
    check_both_size(web, row, row)
    if part is None:
        return ("brick", first_drawn(web, row, has_one_map))
    return shown_bar(web, part, row)


def is_unsplit_paper(web, row, value):
    """Whether any value is a paper that the row is unsplit, or a split bar of it."""
    check_web(web)
    check_row(web, row)
    check_both_size(web, row, row)
    if not isinstance(value, tuple) or len(value) not in (2, 4):
        return False
    if value[0] == "brick" and len(value) == 2:
        return is_filling_of(web, row, value[1]) and has_one_map(value[1])
    if value[0] == "bar" and len(value) == 4:
        return shows_sure(web, value[1], row, value[2], value[3]) and _splits(web, value[1], row)
    return False
