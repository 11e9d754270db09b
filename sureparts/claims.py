"""Claims about rows, their contraries, and papers of both."""

from sureparts.basics import is_count
from sureparts.errors import InvalidClaim
from sureparts.lacks import barring, is_sure_paper, lack_paper, sure_paper
from sureparts.maps import any_lack, check_both_size
from sureparts.pairs import is_filling_of, shown_bar, shows_sure
from sureparts.rows import form, is_at_most, is_row
from sureparts.sure import is_sure, least_lack
from sureparts.unsplit import is_unsplit, is_unsplit_paper, unsplit_paper
from sureparts.webs import Web
from sureparts.weights import is_steady, is_weight, is_weight_paper, weighed, weight_paper

WORDS = (("sure", "barred"), ("unsplit", "split"), ("steady", "tilted"), ("within", "beyond"))
# With which word the papers of a claim begin, where these have one.
PAPERS = {"sure": "sure", "barred": "bar", "unsplit": "brick", "split": "bar", "steady": "square", "tilted": "bar"}


def words():
    """The list of the tuples (word, its contrary)."""
    return list(WORDS)


def _pair(word):
    """The word and its contrary, the first one first; None if there is no such word."""
    for pair in WORDS:
        if word in pair:
            return pair
    return None


def is_claim(value):
    """Whether any value is a claim."""
    if not isinstance(value, tuple) or len(value) < 3 or not isinstance(value[1], Web):
        return False
    pair = _pair(value[0])
    return pair is not None and _are_things(pair[0], value[1], value[2:])


def _are_things(word, web, things):
    """Whether they are the things that, behind the web, a claim of the word, or of its contrary, is about."""
    row = things[0]
    if word == "unsplit":
        return len(things) == 1 and is_row(web, row) and any(row)
    if len(things) < 2 or not is_row(web, things[1]):
        return False
    if word == "steady":
        return len(things) == 2 and is_weight(web, row) and weighed(row, things[1]) == 0
    if not is_row(web, row):
        return False
    if word == "sure":
        return len(things) == 2 and is_at_most(row, things[1])
    return len(things) == 3 and is_count(things[2])


def _check_claim(claim):
    if not is_claim(claim):
        raise InvalidClaim(claim)


def contrary(claim):
    """The contrary of the claim, with the same things."""
    _check_claim(claim)
    first, second = _pair(claim[0])
    word = second if claim[0] == first else first
    return (word,) + tuple([list(thing) if isinstance(thing, list) else thing for thing in claim[1:]])


def is_true(claim):
    """Whether the claim is true."""
    _check_claim(claim)
    first = _pair(claim[0])[0]
    return _holds(first, claim[1], claim[2:]) == (claim[0] == first)


def _holds(word, web, things):
    """Whether the first word of a pair is true of the things."""
    if word == "sure":
        return is_sure(web, things[0], things[1])
    if word == "unsplit":
        return is_unsplit(web, things[0])
    if word == "steady":
        return is_steady(web, things[0], things[1])
    return least_lack(web, things[0], things[1]) <= things[2]


def paper_of(claim):
    """A paper of the claim; None if it isn't true."""
    if not is_true(claim):
        return None
    word, web, things = claim[0], claim[1], claim[2:]
    if word in ("sure", "barred"):
        return sure_paper(web, things[0], things[1])
    if word in ("unsplit", "split"):
        return unsplit_paper(web, things[0])
    if word in ("steady", "tilted"):
        return weight_paper(web, things[0], things[1])
    if word == "within":
        return lack_paper(web, things[0], things[1])[1:3]
    return shown_bar(web, barring(web, things[0], things[1]), things[0])[1:]


def is_paper_of(claim, value):
    """Whether any value is a paper of the claim."""
    _check_claim(claim)
    word, web, things = claim[0], claim[1], claim[2:]
    if word == "within":
        return _is_within_paper(web, things, value)
    if word == "beyond":
        return _is_beyond_paper(web, things, value)
    return _is_told(word, web, things, value) and value[0] == PAPERS[word]


def _is_told(word, web, things, value):
    """Whether any value is a paper of the word, or of its contrary, of those that begin with a word."""
    if word in ("sure", "barred"):
        return is_sure_paper(web, things[0], things[1], value)
    if word in ("unsplit", "split"):
        return is_unsplit_paper(web, things[0], value)
    return is_weight_paper(web, things[0], things[1], value)


def _is_within_paper(web, things, value):
    row, other, most = things
    check_both_size(web, row, other)
    if not isinstance(value, tuple) or len(value) != 2:
        return False
    if not is_filling_of(web, row, value[0]) or not is_filling_of(web, other, value[1]):
        return False
    return any_lack(value[0], value[1]) <= most


def _is_beyond_paper(web, things, value):
    row, other, most = things
    if not isinstance(value, tuple) or len(value) != 3:
        return False
    part, near, far = value
    return shows_sure(web, part, row, near, far) and -form(web, part, other) > most
