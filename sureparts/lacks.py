"""Papers of lack: what shows that a lack is the least one, that a row is a sure part, or that it isn't."""

from sureparts.errors import NotBelow
from sureparts.maps import any_lack, check_both_size
from sureparts.pairs import are_lackless, is_filling_of, least_pair, shown_bar, shows_sure
from sureparts.rows import check_row, form, is_at_most, less
from sureparts.sure import sure_parts
from sureparts.webs import check_web


def _check_rows(web, row, other):
    check_web(web)
    check_row(web, row)
    check_row(web, other)


def barring(web, row, other):
    """The first sure part of the row with the least form with the other one."""
    return min(sure_parts(web, row), key=lambda part: form(web, part, other))


def lack_paper(web, row, other):
    """A lack paper ("lack", F, G, d, N, M) of row and other."""
    _check_rows(web, row, other)
    part = barring(web, row, other)
    check_both_size(web, row, other)
    filling, late = least_pair(web, row, other, -form(web, part, other))
    near, far = least_pair(web, part, less(row, part), 0)
    return ("lack", filling, late, part, near, far)


def is_lack_paper(web, row, other, value):
    """Whether any value is a lack paper of row and other."""
    _check_rows(web, row, other)
    check_both_size(web, row, other)
    if not isinstance(value, tuple) or len(value) != 6 or value[0] != "lack":
        return False
    filling, late, part, near, far = value[1:]
    if not is_filling_of(web, row, filling) or not is_filling_of(web, other, late):
        return False
    return shows_sure(web, part, row, near, far) and any_lack(filling, late) == -form(web, part, other)


def _check_below(web, row, whole):
    _check_rows(web, row, whole)
    if not is_at_most(row, whole):
        raise NotBelow()


def sure_paper(web, row, whole):
    """A sure paper: ("sure", F, G) if the row is a sure part of whole, ("bar", d, N, M) if it isn't."""
    _check_below(web, row, whole)
    rest = less(whole, row)
    part = barring(web, row, rest)
    if form(web, part, rest) < 0:
        return shown_bar(web, part, row)
    filling, other = least_pair(web, row, rest, 0)
    return ("sure", filling, other)


def is_sure_paper(web, row, whole, value):
    """Whether any value is a sure paper of row and whole."""
    _check_below(web, row, whole)
    rest = less(whole, row)
    if not isinstance(value, tuple) or len(value) not in (3, 4):
        return False
    if value[0] == "sure" and len(value) == 3:
        return are_lackless(web, row, rest, value[1], value[2])
    if value[0] == "bar" and len(value) == 4:
        return shows_sure(web, value[1], row, value[2], value[3]) and form(web, value[1], rest) < 0
    return False
