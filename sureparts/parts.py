"""Parts of fillings: rooms that the tables lead into one another."""

from sureparts.errors import InvalidPart, InvalidTables
from sureparts.fillings import Filling, check_filling
from sureparts.maps import check_map
from sureparts.reduced import cleared, heads, kernel, reduced
from sureparts.rows import less
from sureparts.tables import Table, above, times, turned


def is_part(filling, value):
    """Whether any value is a part of the filling."""
    check_filling(filling)
    if not _are_wide(filling.row(), value):
        return False
    if any([reduced(room) != room for room in value]):
        return False
    arrows = filling.web().arrows()
    return all([_leads_into(table, value[tail], value[head])
                for (tail, head), table in zip(arrows, filling.tables())])


def _are_wide(row, value):
    """Whether any value is a list of a Table for each size of the row, as wide as it."""
    if not isinstance(value, (list, tuple)) or len(value) != len(row):
        return False
    return all([isinstance(table, Table) and table.wide == size for size, table in zip(row, value)])


def _leads_into(table, room, other):
    return not any([any(counted(line, other)) for line in _led(table, room).rows()])


def _led(table, room):
    """The table whose rows are what the table leads the room's rows to."""
    return times(room, turned(table))


def counted(line, room):
    """The list, changed by lists of the room to one with noughts at all heads."""
    for row, head in zip(room.rows(), heads(room)):
        line = cleared(line, row, head)
    return line


def _check_part(filling, part):
    if not is_part(filling, part):
        raise InvalidPart(part)


def part_row(filling, part):
    """The part's row: how tall its rooms are."""
    _check_part(filling, part)
    return [room.tall for room in part]


def part_filling(filling, part):
    """The Filling of the part."""
    row = part_row(filling, part)
    arrows = filling.web().arrows()
    tables = [_part_table(table, part[tail], part[head])
              for (tail, head), table in zip(arrows, filling.tables())]
    return Filling(filling.web(), row, tables)


def _part_table(table, room, other):
    # The room is reduced: what stands at its heads tells by which rests its rows are multiplied.
    return picked(_led(table, room).rows(), heads(other))


def picked(lines, columns):
    """The table whose columns are the lists, each with the rests at these columns alone."""
    return Table(len(columns), len(lines), [[line[column] for line in lines] for column in columns])


def rest_filling(filling, part):
    """The Filling of the rest."""
    taken = part_row(filling, part)
    row = less(filling.row(), taken)
    arrows = filling.web().arrows()
    tables = [_rest_table(table, part[tail], part[head])
              for (tail, head), table in zip(arrows, filling.tables())]
    return Filling(filling.web(), row, tables)


def _rest_table(table, room, other):
    columns = turned(table).rows()
    lines = [counted(columns[column], other) for column in free_columns(room)]
    return picked(lines, free_columns(other))


def free_columns(room):
    """The columns of the room that are no heads."""
    taken = heads(room)
    return [column for column in range(room.wide) if column not in taken]


def least_part(filling, tables):
    """The least part that has all rows of the tables, one for each place."""
    check_filling(filling)
    if not _are_wide(filling.row(), tables):
        raise InvalidTables(tables)
    rooms = [reduced(table) for table in tables]
    # Each round leads all rooms one arrow on, and a way has fewer arrows than there are places.
    for _ in range(filling.web().places - 1):
        rooms = _led_on(filling, rooms)
    return rooms


def _led_on(filling, rooms):
    grown = list(rooms)
    for (tail, head), table in zip(filling.web().arrows(), filling.tables()):
        grown[head] = _room_sum(grown[head], _led(table, grown[tail]))
    return grown


def _room_sum(table, other):
    return reduced(above(table, other))


def parts_sum(filling, part, other):
    """The part with all sums of a list of the one and a list of the other."""
    _check_part(filling, part)
    _check_part(filling, other)
    return [_room_sum(room, late) for room, late in zip(part, other)]


def parts_meet(filling, part, other):
    """The part with the lists that are in both."""
    _check_part(filling, part)
    _check_part(filling, other)
    return [_room_meet(room, late) for room, late in zip(part, other)]


def _room_meet(room, other):
    # The kernel of a room's kernel is the room: both kernels lead just the common lists to noughts.
    return kernel(above(kernel(room), kernel(other)))


def made_part(filling, other, across):
    """The part of other with all lists that the map leads to."""
    check_map(filling, other, across)
    return [reduced(turned(table)) for table in across]


def lost_part(filling, other, across):
    """The part of filling with all lists that the map leads to noughts."""
    check_map(filling, other, across)
    return [kernel(table) for table in across]
