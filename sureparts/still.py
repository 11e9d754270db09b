"""Still rows: those with a filling that lacks nothing with itself."""

from sureparts.basics import PRIME
from sureparts.errors import NotStill, UnlikeRows
from sureparts.falling import falls, falls_paper, is_falls_paper
from sureparts.fillings import check_filling, check_other, drawn_rests
from sureparts.maps import both_table, check_both_size, is_map
from sureparts.pairs import first_drawn, is_filling_of, lacks_nothing
from sureparts.reduced import kernel, undone
from sureparts.rows import check_row, form
from sureparts.tables import Table, times, told_tables
from sureparts.unsplit import is_unsplit
from sureparts.webs import check_web


def own_lack(web, row):
    """The least lack with itself of a filling of the row."""
    return sum([1 - form(web, part, part) for part in falls(web, row)])


def is_still(web, row):
    """Whether some filling of the row lacks nothing with itself."""
    return own_lack(web, row) == 0


def is_real(web, row):
    """Whether the row is unsplit, and has the form 1 with itself."""
    return is_unsplit(web, row) and form(web, row, row) == 1


def still_paper(web, row):
    """("still", F), F a still filling of the row, or ("moves", bricks), a falls paper that shows there is none."""
    still = is_still(web, row)
    check_both_size(web, row, row)
    if still:
        return ("still", first_drawn(web, row, _is_still))
    return ("moves", falls_paper(web, row))


def _is_still(filling):
    return lacks_nothing(filling, filling)


def is_still_paper(web, row, value):
    """Whether any value is a still paper of the row."""
    check_web(web)
    check_row(web, row)
    check_both_size(web, row, row)
    if not isinstance(value, tuple) or len(value) != 2:
        return False
    word, shown = value
    if word == "still":
        return is_filling_of(web, row, shown) and _is_still(shown)
    if word == "moves":
        return is_falls_paper(web, row, shown) and any([form(web, brick.row(), brick.row()) < 1 for brick in shown])
    return False


def exchange(filling, other):
    """A map from the filling to the other one all of whose tables can be undone."""
    check_filling(filling)
    check_other(filling, other)
    row = filling.row()
    if row != other.row():
        raise UnlikeRows()
    leading = both_table(filling, other)
    if not _is_still(filling) or not _is_still(other):
        raise NotStill()
    told = kernel(leading)
    many = 0
    # All sums of maps can be undone but those for which one polynomial of their factors is 0: few can't.
    while True:
        factors = Table(1, told.tall, [drawn_rests(told.tall, many % PRIME)])
        across = told_tables([(size, size) for size in row], times(factors, told).rows()[0])
        if _can_be_undone(across):
            return across
        many += 1


def _can_be_undone(tables):
    return all([undone(table) is not None for table in tables])


def is_exchange(filling, other, value):
    """Whether any value is a map from filling to other all of whose tables can be undone."""
    return is_map(filling, other, value) and _can_be_undone(value)
