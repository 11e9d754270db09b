"""Maps between fillings of a web, and what is lacking."""

from sureparts.basics import PRIME
from sureparts.errors import InvalidMap, TooMany
from sureparts.fillings import are_tables_of, check_filling, check_other
from sureparts.reduced import kernel, rank_of_rows
from sureparts.rows import form
from sureparts.tables import MOST_SIZE, Table, times, told_tables, unit


def both_table(filling, other):
    """The table of both, whose kernel tells the maps from filling to other."""
    rows, wide = _checked_rows(filling, other)
    return Table(len(rows), wide, rows)


def maps_many(filling, other):
    """As how many maps all from filling to other are told."""
    rows, wide = _checked_rows(filling, other)
    return wide - rank_of_rows(rows, wide)


def lack(filling, other):
    """The lack of filling with other."""
    rows, wide = _checked_rows(filling, other)
    return len(rows) - rank_of_rows(rows, wide)


def all_maps(filling, other):
    """The list of the maps by which all are told, each a list of Tables."""
    told = kernel(both_table(filling, other)).rows()
    sizes = _map_sizes(filling, other)
    return [told_tables(sizes, rests) for rests in told]


def is_map(filling, other, value):
    """Whether any value is a map from filling to other."""
    check_filling(filling)
    check_other(filling, other)
    if not are_tables_of(_map_sizes(filling, other), value):
        return False
    pairs = list(zip(filling.tables(), other.tables()))
    arrows = filling.web().arrows()
    return all([times(value[head], table) == times(late, value[tail])
                for (tail, head), (table, late) in zip(arrows, pairs)])


def check_map(filling, other, across):
    """Raise InvalidMap unless across is a map from filling to other."""
    if not is_map(filling, other, across):
        raise InvalidMap(across)


def unit_map(filling):
    """The map from the filling to itself that leads each list to itself."""
    check_filling(filling)
    return [unit(size) for size in filling.row()]


def map_behind(filling, other, across, third, late):
    """The map from filling to third: across, and the late one behind it."""
    check_filling(filling)
    check_other(filling, other)
    check_map(filling, other, across)
    check_other(other, third)
    check_map(other, third, late)
    return [times(last, first) for first, last in zip(across, late)]


def _map_sizes(filling, other):
    return list(zip(other.row(), filling.row()))


def _checked_rows(filling, other):
    """The rows of the table of both, and how wide they are; TooMany if no Table can have them."""
    check_filling(filling)
    check_other(filling, other)
    row, late = filling.row(), other.row()
    check_both_size(filling.web(), row, late)
    return both_rows(filling, other), _both_wide(row, late)


def check_both_size(web, row, other):
    """Raise TooMany unless a Table can be the table of both of a filling of row and one of other."""
    tall = sum([row[tail] * other[head] for tail, head in web.arrows()])
    if tall > MOST_SIZE or _both_wide(row, other) > MOST_SIZE:
        raise TooMany("size", MOST_SIZE)


def _both_wide(row, other):
    return sum([size * more for size, more in zip(row, other)])


def any_lack(filling, other):
    """The lack of filling with other, also where no Table can be their table of both."""
    rows = both_rows(filling, other)
    return len(rows) - rank_of_rows(rows, _both_wide(filling.row(), other.row()))


def any_maps(filling, other):
    """As how many maps all from filling to other are told, also where no Table can be their table of both."""
    return form(filling.web(), filling.row(), other.row()) + any_lack(filling, other)


def both_rows(filling, other):
    """The rows of the table of both, also where no Table can have as many."""
    row, late = filling.row(), other.row()
    wide = _both_wide(row, late)
    starts = _block_starts(row, late)
    rows = []
    for at, (tail, head) in enumerate(filling.web().arrows()):
        near, far = filling.tables()[at].rows(), other.tables()[at].rows()
        for high in range(late[head]):
            for column in range(row[tail]):
                line = [0] * wide
                for inner in range(row[head]):
                    line[starts[head] + high * row[head] + inner] = near[inner][column]
                for inner in range(late[tail]):
                    line[starts[tail] + inner * row[tail] + column] = -far[high][inner] % PRIME
                rows.append(line)
    return rows


def _block_starts(row, late):
    """For each place the column at which the numbers of a map's table there begin."""
    starts = []
    start = 0
    for size, more in zip(row, late):
        starts.append(start)
        start += size * more
    return starts
