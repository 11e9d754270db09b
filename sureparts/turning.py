"""Webs, rows and fillings turned at an end: at a place with arrows in alone, or with arrows out alone."""

from sureparts.errors import NotAbove, NotEnd
from sureparts.fillings import Filling, check_filling
from sureparts.parts import counted, free_columns, picked
from sureparts.reduced import kernel, rank, reduced
from sureparts.rows import check_row, check_sizes
from sureparts.tables import Table, above, beside, nought, turned, unit
from sureparts.webs import Web, check_place, check_web


def sinks(web):
    """The rising list of the places that are no arrow's tail."""
    check_web(web)
    tails = [tail for tail, _ in web.arrows()]
    return [place for place in range(web.places) if place not in tails]


def sources(web):
    """The rising list of the places that are no arrow's head."""
    check_web(web)
    reached = [head for _, head in web.arrows()]
    return [place for place in range(web.places) if place not in reached]


def _check_end(web, place):
    if place not in sinks(web) and place not in sources(web):
        raise NotEnd()


def turned_at(web, place):
    """The Web with all arrows at the end turned about."""
    check_web(web)
    check_place(web, place)
    _check_end(web, place)
    return _turned_at(web, place)


def _turned_at(web, place):
    arrows = [(head, tail) if place in (tail, head) else (tail, head) for tail, head in web.arrows()]
    return Web(web.places, arrows)


def turned_row(web, place, row):
    """The row turned at the end, a list."""
    check_web(web)
    check_place(web, place)
    check_row(web, row)
    _check_end(web, place)
    size = _neighbours_sum(web, place, row) - row[place]
    if size < 0:
        raise NotAbove()
    sizes = _with_size(row, place, size)
    check_sizes(sizes)
    return sizes


def _neighbours_sum(web, place, row):
    return sum([row[head] if tail == place else row[tail] for tail, head in web.arrows() if place in (tail, head)])


def _with_size(row, place, size):
    return [size if other == place else own for other, own in enumerate(row)]


def _check_turn(filling, place):
    check_filling(filling)
    check_place(filling.web(), place)
    _check_end(filling.web(), place)


def is_full(filling, place):
    """Whether the filling is full at the end."""
    _check_turn(filling, place)
    size = filling.row()[place]
    tables = [filling.tables()[at] for at in _positions(filling.web(), place)]
    if place in sinks(filling.web()):
        return rank(_all_beside(size, tables)) == size
    return rank(_all_above(size, tables)) == size


def _positions(web, place):
    """The positions of the arrows at the place, rising."""
    return [at for at, arrow in enumerate(web.arrows()) if place in arrow]


def _all_beside(size, tables):
    told = nought(size, 0)
    for table in tables:
        told = beside(told, table)
    return told


def _all_above(size, tables):
    told = nought(0, size)
    for table in tables:
        told = above(told, table)
    return told


def turned_at_filling(filling, place):
    """The Filling turned at the end."""
    _check_turn(filling, place)
    web, row, tables = filling.web(), filling.row(), filling.tables()
    positions = _positions(web, place)
    standing = [tables[at] for at in positions]
    if place in sinks(web):
        size, changed = _sink_turned(row[place], standing)
    else:
        size, changed = _source_turned(row[place], standing)
    sizes = _with_size(row, place, size)
    check_sizes(sizes)
    for at, table in zip(positions, changed):
        tables[at] = table
    return Filling(_turned_at(web, place), sizes, tables)


def _sink_turned(size, tables):
    """The new size at a sink, and the new tables of its arrows."""
    lost = kernel(_all_beside(size, tables))
    lines = turned(lost).rows()
    changed = []
    start = 0
    for table in tables:
        changed.append(Table(table.wide, lost.tall, lines[start:start + table.wide]))
        start += table.wide
    return lost.tall, changed


def _source_turned(size, tables):
    """The new size at a source, and the new tables of its arrows."""
    stacked = _all_above(size, tables)
    room = reduced(turned(stacked))
    free = free_columns(room)
    lists = [counted(line, room) for line in unit(stacked.tall).rows()]
    changed = []
    start = 0
    for table in tables:
        changed.append(picked(lists[start:start + table.tall], free))
        start += table.tall
    return len(free), changed
