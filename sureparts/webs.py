"""Webs: places and arrows between them, without rings."""

from sureparts.basics import is_count
from sureparts.errors import InvalidArrows, InvalidPlace, InvalidPlaces, InvalidWeb

MOST_PLACES = 13
MOST_ARROWS = 12


class Web:
    """A web, which never changes."""

    def __init__(self, places, arrows):
        if not is_count(places) or places < 1 or places > MOST_PLACES:
            raise InvalidPlaces(places)
        if not _are_arrows(places, arrows):
            raise InvalidArrows(arrows)
        self._places = places
        self._arrows = [(tail, head) for tail, head in arrows]

    @property
    def places(self):
        """How many places it has."""
        return self._places

    @property
    def many(self):
        """How many arrows it has."""
        return len(self._arrows)

    def arrows(self):
        """The list of its arrows, tuples (tail, head)."""
        return list(self._arrows)

    def ways(self, place, other):
        """The sorted list of its ways from place to other."""
        check_place(self, place)
        check_place(self, other)
        return sorted(_ways(self._arrows, place, other))

    def __eq__(self, other):
        return isinstance(other, Web) and self._places == other._places and self._arrows == other._arrows


def _are_arrows(places, arrows):
    if not isinstance(arrows, (list, tuple)) or len(arrows) > MOST_ARROWS:
        return False
    return all([_is_arrow(places, arrow) for arrow in arrows]) and not _have_ring(arrows)


def _is_arrow(places, arrow):
    if not isinstance(arrow, tuple) or len(arrow) != 2:
        return False
    return all([is_count(end) and end < places for end in arrow]) and arrow[0] != arrow[1]


def _have_ring(arrows):
    left = list(arrows)
    while left:
        reached = [head for _, head in left]
        # An arrow out of a place that no arrow reaches is on no ring.
        inner = [(tail, head) for tail, head in left if tail in reached]
        if len(inner) == len(left):
            return True
        left = inner
    return False


def _ways(arrows, place, other):
    if place == other:
        return [()]
    found = []
    for at, (tail, head) in enumerate(arrows):
        if tail == place:
            found.extend([(at,) + way for way in _ways(arrows, head, other)])
    return found


def check_web(web):
    """Raise InvalidWeb unless it is a Web."""
    if not isinstance(web, Web):
        raise InvalidWeb(web)


def check_place(web, place):
    """Raise InvalidPlace unless it is a place of the web."""
    if not is_count(place) or place >= web.places:
        raise InvalidPlace(place)


def turned_web(web):
    """The web with tail and head of each arrow exchanged."""
    check_web(web)
    return Web(web.places, [(head, tail) for tail, head in web.arrows()])
