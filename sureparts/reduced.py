"""Reduced tables, and what they tell: rank, heads, kernels, tables that undo, solutions."""

from sureparts.basics import PRIME, inverse
from sureparts.errors import UnlikeSizes
from sureparts.tables import Table, check_table, unit


def stairs(rows, wide):
    """Rows with 1 at rising heads among the first `wide` columns, the heads, and what is left of the other rows.

    The lists that it is passed may be more, and longer, than those of a table; they stay as they are.
    """
    steps = []
    rising = []
    left = rows
    for column in range(wide):
        at = _first_with(left, column)
        if at is None:
            continue
        share = inverse(left[at][column])
        step = [rest * share % PRIME for rest in left[at]]
        left = [cleared(row, step, column) for row in left[:at] + left[at + 1:]]
        steps.append(step)
        rising.append(column)
    return steps, rising, left


def _first_with(rows, column):
    for at, row in enumerate(rows):
        if row[column] != 0:
            return at
    return None


def cleared(row, step, head):
    """The row, less so often the step, with 1 at its head, that 0 stands there."""
    often = row[head]
    if often == 0:
        return row
    return [(rest - often * taken) % PRIME for rest, taken in zip(row, step)]


def _all_cleared(steps, rising):
    """The steps, each with 0 at the heads of all others."""
    done = []
    for at in reversed(range(len(steps))):
        row = steps[at]
        # The later steps are cleared already: taking one off leaves 0 at the heads of all others.
        for late, head in done:
            row = cleared(row, late, head)
        done.append((row, rising[at]))
    return [row for row, _ in done[::-1]]


def rank_of_rows(rows, wide):
    """The rank of lists `wide` long, however many they are."""
    return len(stairs(rows, wide)[0])


def _reduced_rows(rows, wide):
    steps, rising, _ = stairs(rows, wide)
    return _all_cleared(steps, rising), rising


def reduced(table):
    """The reduced table with the same lists."""
    check_table(table)
    rows, rising = _reduced_rows(table.rows(), table.wide)
    return Table(len(rising), table.wide, rows)


def rank(table):
    """How tall the reduced table of it is."""
    check_table(table)
    return rank_of_rows(table.rows(), table.wide)


def heads(table):
    """The rising list of the heads of its reduced table."""
    check_table(table)
    return stairs(table.rows(), table.wide)[1]


def kernel(table):
    """The reduced table whose lists are just those that the table leads to noughts."""
    check_table(table)
    wide = table.wide
    rows, rising = _reduced_rows(table.rows(), wide)
    free = [column for column in range(wide) if column not in rising]
    lost = [_lost_list(rows, rising, wide, column) for column in free]
    lost, _ = _reduced_rows(lost, wide)
    return Table(len(lost), wide, lost)


def _lost_list(rows, rising, wide, column):
    """The one list led to noughts that has 1 at this column and 0 at all others that are no heads."""
    lost = [0] * wide
    lost[column] = 1
    for row, head in zip(rows, rising):
        lost[head] = -row[column] % PRIME
    return lost


def undone(table):
    """The Table that undoes it; None if there is none."""
    check_table(table)
    if table.tall != table.wide:
        return None
    return solved(table, unit(table.tall))


def solved(table, wished):
    """The Table X such that the table times X is the wished one; None if there is none.

    Of all of them it is the one with noughts in all rows but those at heads of the table.
    """
    check_table(table)
    check_table(wished)
    if table.tall != wished.tall:
        raise UnlikeSizes()
    wide = table.wide
    both = [row + side for row, side in zip(table.rows(), wished.rows())]
    steps, rising, left = stairs(both, wide)
    if any([any(row) for row in left]):
        return None
    rows = [[0] * wished.wide for _ in range(wide)]
    for row, head in zip(_all_cleared(steps, rising), rising):
        rows[head] = row[wide:]
    return Table(wide, wished.wide, rows)
