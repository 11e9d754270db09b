"""Sure parts: which sizes of parts every filling of a row has, and what two rows lack at the least."""

from sureparts.rows import check_row, form, is_at_most, less, rows_below
from sureparts.webs import check_web


def sure_below(web, row):
    """For each row at most the row, as a tuple, the sorted list of its sure parts, tuples."""
    below = [tuple(part) for part in rows_below(web, row)]
    sure = {part: [] for part in below}
    contents = {part: _contents(web, part) for part in below}
    # A row comes behind all that are at most it: when its turn comes, its sure parts but itself are known.
    for part in below:
        sure[part].append(part)
        bars = [contents[lesser] for lesser in sure[part] if min(contents[lesser]) < 0]
        for more in rows_below(web, less(row, part)):
            if any(more) and _lets(bars, more):
                sure[tuple([size + rest for size, rest in zip(part, more)])].append(part)
    return sure


def _contents(web, part):
    """For each place the form of the part and the simple row there: the form of any row is made of these."""
    told = list(part)
    for tail, head in web.arrows():
        told[head] -= part[tail]
    return told


def _lets(bars, more):
    """Whether no form that the bars tell is below 0."""
    for bar in bars:
        if sum([content * size for content, size in zip(bar, more)]) < 0:
            return False
    return True


def sure_parts(web, row):
    """The sorted list of all sure parts of the row, lists."""
    return [list(part) for part in sure_below(web, row)[tuple(row)]]


def is_sure(web, row, whole):
    """Whether the row is a sure part of whole."""
    check_web(web)
    check_row(web, row)
    check_row(web, whole)
    parts = sure_parts(web, row)
    if not is_at_most(row, whole):
        return False
    rest = less(whole, row)
    return all([form(web, part, rest) >= 0 for part in parts])


def least_lack(web, row, other):
    """The least lack of the row with the other one."""
    check_web(web)
    check_row(web, row)
    check_row(web, other)
    return max([-form(web, part, other) for part in sure_parts(web, row)])


def least_maps(web, row, other):
    """The least number of maps of the row to the other one."""
    return form(web, row, other) + least_lack(web, row, other)
