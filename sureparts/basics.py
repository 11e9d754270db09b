"""Whole numbers, and the rests by the prime 10007."""

from sureparts.errors import InvalidRest

PRIME = 10007


def is_integer(value):
    """Whether any value is an INTEGER."""
    return isinstance(value, int) and not isinstance(value, bool)


def is_count(value):
    """Whether any value is a COUNT."""
    return is_integer(value) and value >= 0


def is_rest(value):
    """Whether any value is a rest."""
    return is_count(value) and value < PRIME


def check_rest(rest):
    """Raise InvalidRest unless it is a rest."""
    if not is_rest(rest):
        raise InvalidRest(rest)


def inverse(rest):
    """The rest by which its product is 1; None of 0."""
    check_rest(rest)
    if rest == 0:
        return None
    above, below = PRIME, rest
    # Each of both is, but for multiples of the prime, the rest times its share.
    above_share, below_share = 0, 1
    while below > 0:
        often = above // below
        above, below = below, above - often * below
        above_share, below_share = below_share, above_share - often * below_share
    return above_share % PRIME
