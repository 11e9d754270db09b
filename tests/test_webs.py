"""[6], [1b1], [1b2]: webs, ways, webs turned about."""

import unittest

from sureparts.errors import InvalidArrows, InvalidPlace, InvalidPlaces, InvalidWeb
from sureparts.webs import Web, turned_web
from tests.helpers import STRANGE, WEBS, Case


def ways_by_definition(web, place, other):
    """All tuples of positions whose arrows follow one another, longer and longer, as long as there are any."""
    arrows = web.arrows()
    found = [()] if place == other else []
    layer = [(at,) for at, arrow in enumerate(arrows) if arrow[0] == place]
    while layer:
        found += [way for way in layer if arrows[way[-1]][1] == other]
        layer = [way + (at,) for way in layer for at, arrow in enumerate(arrows) if arrow[0] == arrows[way[-1]][1]]
    return sorted(found)


class Webs(Case):
    def test_kept(self):
        arrows = [(0, 2), (2, 1), (0, 2)]
        web = Web(3, arrows)
        self.same([web.places, web.many, web.arrows()], [3, 3, [(0, 2), (2, 1), (0, 2)]])
        named = Web(arrows=((0, 2), (2, 1), (0, 2)), places=3)
        self.same([named.places, named.many, named.arrows()], [3, 3, [(0, 2), (2, 1), (0, 2)]])
        arrows.append((0, 1))
        self.assertEqual(web.many, 3)
        self.new_list(web.arrows)

    def test_never_changes(self):
        for name in ("places", "many"):
            with self.assertRaises(AttributeError):
                setattr(Web(2, []), name, 2)

    def test_edges(self):
        for places in (1, 13):
            for arrows in ([], ()):
                web = Web(places, arrows)
                self.same([web.places, web.many, web.arrows()], [places, 0, []])
        self.same(Web(2, [(1, 0)] * 12).arrows(), [(1, 0)] * 12)
        chain = [(at, at + 1) for at in range(12)]
        self.same(Web(13, chain).ways(0, 12), [tuple(range(12))])
        self.same(Web(13, chain[::-1]).ways(0, 12), [tuple(range(11, -1, -1))])

    def test_places_are_a_count_from_1_to_13(self):
        for value in STRANGE + [0, 14, -1, 10 ** 30, [], (), [2], (2,)]:
            self.told(InvalidPlaces, {"value": value}, Web, value, [])
            self.told(InvalidPlaces, {"value": value}, Web, arrows=[(0, 0)], places=value)

    def test_arrows_are_at_most_12_tuples_of_two_unlike_places(self):
        wrong = [[(0, 1)] * 13, [(0, 0)], [(0, 3)], [(3, 0)], [(0, -1)], [[0, 1]], [(0, 1), [1, 2]], [(0,)], [(0, 1, 2)],
                 [()], [0, 1], (0, 1), [None], ["01"], [{0: 1}], [(True, 0)], [(0, True)], [(False, 1)], [("0", 1)],
                 [(0, None)], [((0,), 1)], [(0, 1), (1, 2), (2, 2)], {0: (0, 1)}, {(0, 1): 0}, {(0, 1)}]
        for value in wrong + STRANGE + [0, 1]:
            self.told(InvalidArrows, {"value": value}, Web, 3, value)
            self.told(InvalidArrows, {"value": value}, Web, arrows=value, places=3)
        self.told(InvalidArrows, {"value": [(0, 1)]}, Web, 1, [(0, 1)])

    def test_rings(self):
        for ring in ([(0, 1), (1, 0)], [(0, 1), (1, 2), (2, 0)], [(3, 0), (0, 1), (2, 0), (1, 2), (2, 3)],
                     [(0, 1), (0, 1), (2, 3), (3, 2)], [(0, 1), (1, 2), (2, 3), (3, 1)], [(0, 1), (1, 2), (2, 1), (2, 3)]):
            self.told(InvalidArrows, {"value": ring}, Web, 4, ring)
            self.told(InvalidArrows, {"value": tuple(ring)}, Web, 4, tuple(ring))
        around = [(at, (at + 1) % 12) for at in range(12)]
        self.told(InvalidArrows, {"value": around}, Web, 12, around)
        self.assertEqual(Web(12, around[:-1]).many, 11)

    def test_no_ring_where_arrows_meet_again(self):
        self.assertEqual(Web(4, [(0, 1), (0, 2), (1, 3), (2, 3), (0, 3)]).many, 5)
        self.assertEqual(Web(4, [(3, 2), (2, 1), (1, 0), (3, 0)]).many, 4)

    def test_equal(self):
        web = Web(3, [(0, 1), (1, 2)])
        self.assertIs(web == Web(3, ((0, 1), (1, 2))), True)
        self.assertIs(web != Web(3, ((0, 1), (1, 2))), False)
        for other in (Web(4, [(0, 1), (1, 2)]), Web(3, [(1, 2), (0, 1)]), Web(3, [(0, 1)]), Web(3, [(0, 1), (0, 2)])):
            self.assertIs(web == other, False)
        for value in STRANGE + [3, [(0, 1), (1, 2)], (3, [(0, 1), (1, 2)])]:
            self.assertIs(web == value, False)
            self.assertIs(web != value, True)


class Ways(Case):
    def test_ways(self):
        for web in WEBS:
            for place in range(web.places):
                for other in range(web.places):
                    told = web.ways(place, other)
                    self.same(told, ways_by_definition(web, place, other))
                    self.same(web.ways(other=other, place=place), told)

    def test_81(self):
        web = Web(5, [(at, at + 1) for at in range(4) for _ in range(3)])
        self.assertEqual(len(web.ways(0, 4)), 81)
        self.assertEqual(web.ways(0, 4)[0], (0, 3, 6, 9))

    def test_new(self):
        web = Web(2, [(0, 1), (0, 1)])
        self.new_list(lambda: web.ways(0, 1))
        self.new_list(lambda: web.ways(1, 1))

    def test_no_places(self):
        web = Web(3, [(0, 1)])
        for value in STRANGE + [3, -1, 10 ** 30, [], [0], (0,)]:
            self.told(InvalidPlace, {"value": value}, web.ways, value, 0)
            self.told(InvalidPlace, {"value": value}, web.ways, 0, value)
            self.told(InvalidPlace, {"value": value}, web.ways, place=value, other=7)


class TurnedAbout(Case):
    def test_turned_about(self):
        for web in WEBS:
            told = turned_web(web)
            self.same(told.arrows(), [(head, tail) for tail, head in web.arrows()])
            self.assertEqual(told.places, web.places)
            self.assertTrue(turned_web(web=told) == web)
            for place in range(web.places):
                for other in range(web.places):
                    self.same(told.ways(other, place), sorted([way[::-1] for way in web.ways(place, other)]))

    def test_no_web(self):
        for value in STRANGE + [2, [], (), (2, [(0, 1)])]:
            self.told(InvalidWeb, {"value": value}, turned_web, value)
            self.told(InvalidWeb, {"value": value}, turned_web, web=value)


if __name__ == "__main__":
    unittest.main()
