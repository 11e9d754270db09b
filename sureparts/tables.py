"""Tables of rests, and tables out of tables."""

from sureparts.basics import PRIME, check_rest, is_count, is_rest
from sureparts.errors import InvalidMany, InvalidRows, InvalidSize, InvalidTable, TooMany, UnlikeSizes

MOST_SIZE = 200


class Table:
    """A table of rests, which never changes."""

    def __init__(self, tall, wide, rows):
        check_size(tall)
        check_size(wide)
        if not _are_rows(tall, wide, rows):
            raise InvalidRows(rows)
        self._tall = tall
        self._wide = wide
        self._rows = [list(row) for row in rows]

    @property
    def tall(self):
        """How many rows it has."""
        return self._tall

    @property
    def wide(self):
        """How many rests each row has."""
        return self._wide

    def rows(self):
        """The list of its rows, lists."""
        return [list(row) for row in self._rows]

    def __eq__(self, other):
        return (isinstance(other, Table) and self._tall == other._tall and self._wide == other._wide
                and self._rows == other._rows)


def _is_size(value):
    return is_count(value) and value <= MOST_SIZE


def _are_rows(tall, wide, rows):
    if not isinstance(rows, (list, tuple)) or len(rows) != tall:
        return False
    return all([_is_line(wide, row) for row in rows])


def _is_line(wide, row):
    return isinstance(row, (list, tuple)) and len(row) == wide and all([is_rest(rest) for rest in row])


def check_size(size):
    """Raise InvalidSize unless a table can be so tall, or so wide."""
    if not _is_size(size):
        raise InvalidSize(size)


def check_table(table):
    """Raise InvalidTable unless it is a Table."""
    if not isinstance(table, Table):
        raise InvalidTable(table)


def is_table_of(tall, wide, value):
    """Whether any value is a Table so tall and so wide."""
    return isinstance(value, Table) and value.tall == tall and value.wide == wide


def told_tables(sizes, rests):
    """Tables of the sizes (tall, wide), their rests told table by table, row by row, column by column."""
    tables = []
    start = 0
    for tall, wide in sizes:
        rows = [rests[start + at * wide:start + (at + 1) * wide] for at in range(tall)]
        tables.append(Table(tall, wide, rows))
        start += tall * wide
    return tables


def plus(table, other):
    """Both added, rest by rest."""
    check_table(table)
    check_table(other)
    if table.tall != other.tall or table.wide != other.wide:
        raise UnlikeSizes()
    pairs = list(zip(table.rows(), other.rows()))
    rows = [[(rest + more) % PRIME for rest, more in zip(row, side)] for row, side in pairs]
    return Table(table.tall, table.wide, rows)


def times(table, other):
    """The table that leads where the first one leads what the other one leads to."""
    check_table(table)
    check_table(other)
    if table.wide != other.tall:
        raise UnlikeSizes()
    columns = _columns(other)
    rows = [[_product(row, column) for column in columns] for row in table.rows()]
    return Table(table.tall, other.wide, rows)


def _columns(table):
    rows = table.rows()
    return [[row[at] for row in rows] for at in range(table.wide)]


def _product(row, column):
    return sum([rest * other for rest, other in zip(row, column)]) % PRIME


def scaled(table, rest):
    """Each of its rests taken so many times."""
    check_table(table)
    check_rest(rest)
    rows = [[own * rest % PRIME for own in row] for row in table.rows()]
    return Table(table.tall, table.wide, rows)


def turned(table):
    """Its columns as rows."""
    check_table(table)
    return Table(table.wide, table.tall, _columns(table))


def unit(many):
    """The square table that leads each list to itself."""
    if not _is_size(many):
        raise InvalidMany(many)
    return Table(many, many, [[1 if row == column else 0 for column in range(many)] for row in range(many)])


def nought(tall, wide):
    """The table with 0 everywhere."""
    check_size(tall)
    check_size(wide)
    return Table(tall, wide, [[0] * wide for _ in range(tall)])


def beside(table, other):
    """The columns of both, the first one's first."""
    check_table(table)
    check_table(other)
    if table.tall != other.tall:
        raise UnlikeSizes()
    if table.wide + other.wide > MOST_SIZE:
        raise TooMany("size", MOST_SIZE)
    rows = [row + side for row, side in zip(table.rows(), other.rows())]
    return Table(table.tall, table.wide + other.wide, rows)


def above(table, other):
    """The rows of both, the first one's first."""
    check_table(table)
    check_table(other)
    if table.wide != other.wide:
        raise UnlikeSizes()
    if table.tall + other.tall > MOST_SIZE:
        raise TooMany("size", MOST_SIZE)
    return Table(table.tall + other.tall, table.wide, table.rows() + other.rows())
