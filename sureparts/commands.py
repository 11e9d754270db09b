"""The words of commands: which strings are names, commands and deeds, and what the parts of a command tell."""

LETTERS = "abcdefghijklmnopqrstuvwxyz"
DIGITS = "0123456789"
MOST_LONG = 8
MOST_DIGITS = 6
MOST_NUMBERS = 13
MOST_ARROWS = 12

# The parts behind the first word. NOTED is the LABEL of a claim, WORD its word; what a claim wants stands below.
DEEDS = {
    "web": "NEW COUNT ARROWS", "row": "NEW web LIST", "weight": "NEW web NUMBERS", "filling": "NEW web LIST COUNT",
    "arrow": "web PLACE PLACE", "strike": "web COUNT", "size": "row PLACE COUNT", "load": "weight PLACE NUMBER",
    "entry": "filling COUNT LIST REST", "both": "NEW filling filling", "turn": "NEW web", "copy": "NEW name",
    "drop": "name", "claim": "NOTED WORD", "forget": "LABEL",
}
CLAIMS = {
    "sure": "row row", "barred": "row row", "unsplit": "row", "split": "row", "steady": "weight row",
    "tilted": "weight row", "within": "row row COUNT", "beyond": "row row COUNT",
}
TELLING = {
    "undo": "", "redo": "", "state": "LABEL", "states": "", "claimed": "LABEL", "names": "", "of": "name",
    "show": "name", "same": "name other", "form": "row row", "least": "row row", "maps": "filling filling",
    "lack": "filling filling", "sure": "row", "falls": "row", "steps": "weight row",
}


def is_name(value):
    """Whether any value is a name."""
    if not isinstance(value, str) or len(value) == 0 or len(value) > MOST_LONG:
        return False
    return value[0] in LETTERS and all([sign in LETTERS or sign in DIGITS for sign in value])


def is_command(value):
    """Whether any value is a string that is a command by its words alone."""
    return told_parts(value) is not None


def is_deed(value):
    """Whether any value is a deed."""
    return is_command(value) and value.split(" ")[0] in DEEDS


def claim_kinds(word):
    """The kinds of the parts that a claim of the word wants."""
    return CLAIMS[word].split()


def told_parts(value):
    """The parts behind a command's first word, tuples (kind, what it tells); None if any value is no command."""
    if not isinstance(value, str):
        return None
    words = value.split(" ")
    kinds = _kinds(words)
    if kinds is None or len(kinds) != len(words) - 1:
        return None
    told = [_told(kind, word) for kind, word in zip(kinds, words[1:])]
    if any([part is None for part in told]):
        return None
    return list(zip(kinds, told))


def _kinds(words):
    """The kinds of the parts that the words should be behind the first one; None if there is no such command."""
    first = words[0]
    if first == "claim" and len(words) > 2 and words[2] in CLAIMS:
        return DEEDS[first].split() + claim_kinds(words[2])
    if first in DEEDS and first != "claim":
        return DEEDS[first].split()
    return TELLING[first].split() if first in TELLING else None


def _told(kind, word):
    """What the word tells as a part of the kind; None if it is none."""
    if kind in ("COUNT", "PLACE", "REST"):
        return _count(word)
    if kind == "NUMBER":
        return _number(word)
    if kind == "LIST":
        return _all_told(MOST_NUMBERS, [_count(part) for part in word.split(",")])
    if kind == "NUMBERS":
        return _all_told(MOST_NUMBERS, [_number(part) for part in word.split(",")])
    if kind == "ARROWS":
        return [] if word == "-" else _all_told(MOST_ARROWS, [_arrow(part) for part in word.split(",")])
    # What is left are names, labels, and the words of claims, which are known by then and like names.
    return word if is_name(word) else None


def _count(word):
    if len(word) == 0 or len(word) > MOST_DIGITS or not all([sign in DIGITS for sign in word]):
        return None
    return None if word[0] == "0" and word != "0" else int(word)


def _number(word):
    if not word.startswith("-"):
        return _count(word)
    count = _count(word[1:])
    return None if count is None or count == 0 else -count


def _arrow(word):
    ends = [_count(part) for part in word.split(">")]
    return tuple(ends) if len(ends) == 2 and None not in ends else None


def _all_told(most, told):
    """The list, but None if it has more parts, or one that is None."""
    return None if len(told) > most or any([part is None for part in told]) else told
