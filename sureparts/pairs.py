"""Pairs of fillings that lack as little as two rows must, and what such a pair shows."""

from sureparts.basics import PRIME
from sureparts.fillings import Filling, drawn_filling
from sureparts.maps import any_lack
from sureparts.rows import form, is_at_most, is_row, less


def is_filling_of(web, row, value):
    """Whether any value is a filling of this web and row."""
    return isinstance(value, Filling) and value.web() == web and value.row() == list(row)


def lacks_nothing(filling, other):
    """Whether filling lacks nothing with other, however tall their table of both is."""
    # What the form has below 0 is lacking, and where it has nothing the table of both is small.
    return form(filling.web(), filling.row(), other.row()) >= 0 and any_lack(filling, other) == 0


def first_drawn(web, row, is_wished):
    """The first drawn filling of the row of which the function is_wished tells True."""
    many = 0
    # What is wished holds of all drawn ones but those for which some polynomials of their rests are 0: few are.
    while True:
        filling = drawn_filling(web, row, many % PRIME)
        if is_wished(filling):
            return filling
        many += 1


def least_pair(web, row, other, least):
    """A filling of row and one of other, the first one lacking just the least lack with the second one."""
    many = 0
    # All drawn pairs lack so much but those for which some polynomial of their rests is 0: few do.
    while True:
        filling = drawn_filling(web, row, many % PRIME)
        late = drawn_filling(web, other, (many + many // PRIME + 1) % PRIME)
        if any_lack(filling, late) == least:
            return filling, late
        many += 1


def shows_sure(web, part, row, filling, other):
    """Whether any three values are a row at most the row, and fillings of it and of what is left that show it sure."""
    if not is_row(web, part) or not is_at_most(part, row):
        return False
    return are_lackless(web, part, less(row, part), filling, other)


def are_lackless(web, row, late, filling, other):
    """Whether any two values are fillings of row and of late, and the one lacks nothing with the other one."""
    if not is_filling_of(web, row, filling) or not is_filling_of(web, late, other):
        return False
    return lacks_nothing(filling, other)


def shown_bar(web, part, row):
    """("bar", part, N, M): the sure part, with fillings of it and of what is left that show it sure."""
    filling, other = least_pair(web, part, less(row, part), 0)
    return ("bar", list(part), filling, other)
