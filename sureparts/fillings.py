"""Fillings of a web: a row, and along each arrow a table."""

from sureparts.basics import PRIME, is_count, is_rest
from sureparts.errors import InvalidFilling, InvalidMany, InvalidTables, InvalidWay, UnlikeWebs
from sureparts.reduced import undone
from sureparts.rows import check_row, check_sizes, simple_row, ways_row
from sureparts.tables import Table, above, beside, is_table_of, nought, times, told_tables, turned
from sureparts.webs import check_web, turned_web


class Filling:
    """A filling of a web, which never changes."""

    def __init__(self, web, row, tables):
        check_web(web)
        check_row(web, row)
        if not are_tables_of(arrow_sizes(web, row, row), tables):
            raise InvalidTables(tables)
        self._web = web
        self._row = list(row)
        self._tables = list(tables)

    def web(self):
        """The web that it fills."""
        return self._web

    def row(self):
        """The list of its sizes."""
        return list(self._row)

    def tables(self):
        """The list of its tables, by the arrows' positions."""
        return list(self._tables)

    def along(self, way):
        """The Table along the way."""
        if not _is_way(self._web.arrows(), way):
            raise InvalidWay(way)
        led = self._tables[way[0]]
        for at in way[1:]:
            led = times(self._tables[at], led)
        return led

    def __eq__(self, other):
        return (isinstance(other, Filling) and self._web == other._web and self._row == other._row
                and self._tables == other._tables)


def arrow_sizes(web, high, broad):
    """For each arrow how tall a table is by the row high at its head, how wide by the row broad at its tail."""
    return [(high[head], broad[tail]) for tail, head in web.arrows()]


def are_tables_of(sizes, value):
    """Whether any value is a list of Tables of these sizes (tall, wide), in their sequence."""
    if not isinstance(value, (list, tuple)) or len(value) != len(sizes):
        return False
    return all([is_table_of(tall, wide, table) for (tall, wide), table in zip(sizes, value)])


def _is_way(arrows, way):
    if not isinstance(way, tuple) or len(way) == 0:
        return False
    if not all([is_count(at) and at < len(arrows) for at in way]):
        return False
    return all([arrows[at][1] == arrows[late][0] for at, late in zip(way, way[1:])])


def check_filling(filling):
    """Raise InvalidFilling unless it is a Filling."""
    if not isinstance(filling, Filling):
        raise InvalidFilling(filling)


def check_other(filling, other):
    """Raise InvalidFilling unless other is a Filling, too, then UnlikeWebs unless their webs are equal."""
    check_filling(other)
    if filling.web() != other.web():
        raise UnlikeWebs()


def nought_filling(web, row):
    """The filling of the row with the rest 0 everywhere."""
    check_web(web)
    check_row(web, row)
    return Filling(web, row, [nought(tall, wide) for tall, wide in arrow_sizes(web, row, row)])


def simple_filling(web, place):
    """The filling with the size 1 at the place, 0 elsewhere."""
    return nought_filling(web, simple_row(web, place))


def ways_filling(web, place):
    """The filling of the ways from the place."""
    row = ways_row(web, place)
    ways = [web.ways(place, other) for other in range(web.places)]
    tables = [_longer_table(ways[tail], ways[head], at) for at, (tail, head) in enumerate(web.arrows())]
    return Filling(web, row, tables)


def _longer_table(ways, longer, at):
    """The table that leads each way to that one of the longer ways which has the position behind it."""
    rows = [[1 if way + (at,) == late else 0 for way in ways] for late in longer]
    return Table(len(longer), len(ways), rows)


def both(filling, other):
    """Both fillings, side by side."""
    check_filling(filling)
    check_other(filling, other)
    row = [size + more for size, more in zip(filling.row(), other.row())]
    check_sizes(row)
    tables = [_both_tables(table, late) for table, late in zip(filling.tables(), other.tables())]
    return Filling(filling.web(), row, tables)


def _both_tables(table, late):
    first = beside(table, nought(table.tall, late.wide))
    return above(first, beside(nought(late.tall, table.wide), late))


def turned_filling(filling):
    """The filling turned about, of the web turned about."""
    check_filling(filling)
    tables = [turned(table) for table in filling.tables()]
    return Filling(turned_web(filling.web()), filling.row(), tables)


def exchanged(filling, tables):
    """The filling with its lists exchanged by the tables, one for each place."""
    check_filling(filling)
    row = filling.row()
    if not are_tables_of([(size, size) for size in row], tables):
        raise InvalidTables(tables)
    back = [undone(table) for table in tables]
    if any([table is None for table in back]):
        raise InvalidTables(tables)
    arrows = filling.web().arrows()
    led = [times(times(tables[head], table), back[tail])
           for (tail, head), table in zip(arrows, filling.tables())]
    return Filling(filling.web(), row, led)


def drawn_filling(web, row, many):
    """The filling of the row that is drawn by many."""
    check_web(web)
    check_row(web, row)
    if not is_rest(many):
        raise InvalidMany(many)
    sizes = arrow_sizes(web, row, row)
    rests = drawn_rests(sum([tall * wide for tall, wide in sizes]), many)
    return Filling(web, row, told_tables(sizes, rests))


def drawn_rests(length, many):
    """So many rests, drawn by many."""
    rests = []
    drawn = many
    for count in range(1, length + 1):
        drawn = (drawn * drawn + 4271 * count + many + 1) % PRIME
        rests.append(drawn)
    return rests
