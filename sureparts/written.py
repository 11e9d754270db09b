"""Things as strings: tables, webs, fillings, rows and weights, written and read."""

from sureparts.basics import is_integer
from sureparts.errors import InvalidSort, InvalidThing, TooMany, UnreadText, WebError
from sureparts.fillings import Filling
from sureparts.tables import Table
from sureparts.webs import MOST_PLACES, Web

SORTS = ("table", "web", "filling", "row", "weight")
MOST_SIGNS = 20000
MOST_DIGITS = 30
BEYOND_DIGITS = 10 ** 30

CLOSING = {"[": "]", "(": ")"}
DIGITS = "0123456789"

# What is behind the last sign of a string that some written thing begins with.
START = 0
OPENED = 1
MINUS = 2
NUMBER = 3
DONE = 4


def _check_sort(sort):
    if not isinstance(sort, str) or sort not in SORTS:
        raise InvalidSort(sort)


def is_of_sort(sort, value):
    """Whether any value is of the sort."""
    _check_sort(sort)
    if sort == "table":
        return isinstance(value, Table)
    if sort == "web":
        return isinstance(value, Web)
    if sort == "filling":
        return isinstance(value, Filling)
    return _are_integers(value) and (sort == "weight" or all([number >= 0 for number in value]))


def _are_integers(value):
    if not isinstance(value, (list, tuple)) or len(value) > MOST_PLACES:
        return False
    return all([is_integer(number) and abs(number) < BEYOND_DIGITS for number in value])


def written(sort, value):
    """The thing of the sort, written."""
    if not is_of_sort(sort, value):
        raise InvalidThing(value)
    told = _text(_plain(value))
    if len(told) > MOST_SIGNS:
        raise TooMany("signs", MOST_SIGNS)
    return told


def _plain(thing):
    """The thing as lists and tuples of numbers."""
    if isinstance(thing, Table):
        return (thing.tall, thing.wide, thing.rows())
    if isinstance(thing, Web):
        return (thing.places, thing.arrows())
    if isinstance(thing, Filling):
        return (_plain(thing.web()), thing.row(), [_plain(table) for table in thing.tables()])
    return list(thing)


def _text(plain):
    if isinstance(plain, int):
        return str(plain)
    inner = " ".join([_text(part) for part in plain])
    return "[" + inner + "]" if isinstance(plain, list) else "(" + inner + ")"


def read(sort, text):
    """The thing of the sort whose written form the text is."""
    _check_sort(sort)
    if not isinstance(text, str):
        raise UnreadText(None)
    position = _unread(text)
    if position is not None:
        raise UnreadText(position)
    thing = _thing(sort, _parsed(text))
    # What is no thing of the sort, or one with lists in the place of tuples, is another thing's written form.
    if thing is None or _text(_plain(thing)) != text:
        raise UnreadText(None)
    return thing


def _unread(text):
    """The unread position of the text; None if it is a written thing of whatever sort."""
    state = START
    opened = []
    for at, sign in enumerate(text):
        state = _step(state, opened, sign)
        if state is None:
            return at
    if opened or state not in (NUMBER, DONE):
        return len(text)
    return None


def _step(state, opened, sign):
    """The state behind the sign, None if no written thing goes on so; opened are the signs that are to close."""
    if state in (START, OPENED) and sign in CLOSING:
        opened.append(CLOSING[sign])
        return OPENED
    if state in (START, OPENED) and sign == "-":
        return MINUS
    if sign in DIGITS:
        return _digit_step(state, sign)
    if not opened or state in (START, MINUS):
        return None
    if sign == opened[-1]:
        opened.pop()
        return DONE
    return START if sign == " " and state != OPENED else None


def _digit_step(state, digit):
    if state == NUMBER:
        return NUMBER
    if state == DONE or (state == MINUS and digit == "0"):
        return None
    # Behind a nought that begins a number no digit is needed.
    return DONE if digit == "0" else NUMBER


def _parsed(text):
    """The lists, tuples and numbers that a written thing tells; None for a number of far too many digits."""
    opened = [[]]
    for word in text.replace("[", "[ ").replace("(", "( ").replace("]", " ]").replace(")", " )").split():
        if word in CLOSING:
            opened.append([])
        elif word == "]":
            inner = opened.pop()
            opened[-1].append(inner)
        elif word == ")":
            inner = tuple(opened.pop())
            opened[-1].append(inner)
        else:
            opened[-1].append(int(word) if len(word) <= MOST_DIGITS + 1 else None)
    return opened[0][0]


def _thing(sort, plain):
    """The thing of the sort that lists, tuples and numbers tell; None if there is none."""
    if sort in ("row", "weight"):
        return plain if is_of_sort(sort, plain) else None
    try:
        return _built(sort, plain)
    except WebError:
        return None


def _built(sort, plain):
    """The table, web or filling; None, or an error, if there is none."""
    if not isinstance(plain, tuple) or len(plain) != (2 if sort == "web" else 3):
        return None
    if sort == "web":
        return Web(plain[0], plain[1])
    if sort == "table":
        return Table(plain[0], plain[1], plain[2])
    if not isinstance(plain[2], list):
        return None
    return Filling(_built("web", plain[0]), plain[1], [_built("table", table) for table in plain[2]])
