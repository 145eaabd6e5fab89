"""Rings, and an order in which everything comes behind what it leads to."""

from cases import Case
from unopened.rings import first_on_ring, in_order, reached_from


class TestRings(Case):
    def test_what_is_reached(self):
        leads = {"a": ["b", "c"], "b": ["c"], "c": ["b"], "d": ["a", "d"], "e": []}
        self.same([sorted(reached_from(place, leads)) for place in leads],
                  [["b", "c"], ["b", "c"], ["b", "c"], ["a", "b", "c", "d"], []])

    def test_the_first_place_on_a_ring(self):
        for leads, wanted in [({}, None), ({0: []}, None), ({0: [0]}, 0), ({0: [1], 1: [2], 2: [1]}, 1),
                              ({2: [1], 0: [2], 1: [2]}, 2), ({0: [1, 2], 1: [3], 2: [3], 3: []}, None)]:
            self.same(first_on_ring(leads), wanted)

    def test_the_order(self):
        for leads, wanted in [({}, []), ({0: [], 1: [], 2: []}, [0, 1, 2]), ({0: [2], 1: [0], 2: []}, [2, 0, 1]),
                              ({0: [3], 1: [], 2: [0], 3: [1]}, [1, 3, 0, 2]),
                              ({"b": ["a"], "a": [], "c": ["a", "a"]}, ["a", "b", "c"])]:
            self.same(in_order(leads), wanted)

    def test_arguments_are_not_changed(self):
        leads = {0: [1, 2], 1: [2], 2: []}
        reached_from(0, leads)
        first_on_ring(leads)
        in_order(leads)
        self.same(leads, {0: [1, 2], 1: [2], 2: []})
