"""Joined fillings: two in one, the first one a part and the second one the rest."""

from sureparts.basics import PRIME
from sureparts.errors import InvalidJoining, InvalidTables
from sureparts.fillings import Filling, are_tables_of, arrow_sizes, check_filling, check_other
from sureparts.maps import both_table
from sureparts.reduced import kernel, solved
from sureparts.rows import check_sizes
from sureparts.tables import Table, above, beside, nought, plus, scaled, times, told_tables, turned


def is_joining(filling, other, value):
    """Whether any value is a joining of both."""
    check_filling(filling)
    check_other(filling, other)
    return are_tables_of(_joining_sizes(filling, other), value)


def _joining_sizes(filling, other):
    return arrow_sizes(filling.web(), filling.row(), other.row())


def _layer_sizes(filling, other):
    return list(zip(filling.row(), other.row()))


def _check_joining(filling, other, joining):
    if not is_joining(filling, other, joining):
        raise InvalidJoining(joining)


def joined(filling, other, joining):
    """Both joined by the joining, a Filling."""
    _check_joining(filling, other, joining)
    row = [size + more for size, more in zip(filling.row(), other.row())]
    check_sizes(row)
    tables = [_joined_tables(table, late, across)
              for table, late, across in zip(filling.tables(), other.tables(), joining)]
    return Filling(filling.web(), row, tables)


def _joined_tables(table, late, across):
    return above(beside(table, across), beside(nought(late.tall, table.wide), late))


def laid_out(filling, other, tables):
    """The joining that the tables lay out, a list of Tables."""
    check_filling(filling)
    check_other(filling, other)
    if not are_tables_of(_layer_sizes(filling, other), tables):
        raise InvalidTables(tables)
    return _laid_out(filling, other, tables)


def _laid_out(filling, other, tables):
    arrows = filling.web().arrows()
    pairs = list(zip(filling.tables(), other.tables()))
    return [_taken_off(times(tables[head], late), times(table, tables[tail]))
            for (tail, head), (table, late) in zip(arrows, pairs)]


def _taken_off(table, other):
    return plus(table, scaled(other, PRIME - 1))


def join_paper(filling, other, joining):
    """("split", T), such that T lays the joining out, or a witness that none does, ("witness", W)."""
    _check_joining(filling, other, joining)
    leading = both_table(other, filling)
    rests = _rests(joining)
    numbers = solved(leading, Table(len(rests), 1, [[rest] for rest in rests]))
    if numbers is None:
        return ("witness", told_tables(_joining_sizes(filling, other), _witness_rests(leading, rests)))
    return ("split", told_tables(_layer_sizes(filling, other), [row[0] for row in numbers.rows()]))


def _witness_rests(leading, rests):
    """A list whose product with each column is 0, but not that with the rests: no sum of columns."""
    for row in kernel(turned(leading)).rows():
        if _product(row, rests) != 0:
            return row
    return None


def _product(row, other):
    return sum([rest * late for rest, late in zip(row, other)]) % PRIME


def _rests(tables):
    """All rests of the tables, table by table, row by row, column by column."""
    return [rest for table in tables for row in table.rows() for rest in row]


def is_join_paper(filling, other, joining, value):
    """Whether any value is a paper that the joining splits, or a witness that it doesn't."""
    _check_joining(filling, other, joining)
    if not isinstance(value, tuple) or len(value) != 2:
        return False
    word, tables = value
    if word == "split":
        fit = are_tables_of(_layer_sizes(filling, other), tables)
        return fit and _laid_out(filling, other, tables) == list(joining)
    if word == "witness":
        fit = is_joining(filling, other, tables)
        return fit and _is_blind(filling, other, tables) and _product(_rests(tables), _rests(joining)) != 0
    return False


def _is_blind(filling, other, witness):
    """Whether the sum of the witness and each laid out joining is 0."""
    seen = [nought(tall, wide) for tall, wide in _layer_sizes(filling, other)]
    pairs = list(zip(filling.tables(), other.tables()))
    # Each number of T at a place has, in that sum, the factor that stands here at its place.
    for (tail, head), (table, late), across in zip(filling.web().arrows(), pairs, witness):
        seen[head] = plus(seen[head], times(across, turned(late)))
        seen[tail] = _taken_off(seen[tail], times(turned(table), across))
    return not any(_rests(seen))
