"""Points 8.1 and 8.2: layouts, moves, legs."""

import unittest

from hushedwires.errors import BadLayout, BadLegs, NoPole
from hushedwires.layouts import (
    Layout, check_legs, exchanged_layout, moves_of, spot_couples, still_layout, turning_layout)
from tests.arms import all_layouts, random_layout
from tests.reckon import WRONG_WHOLES, Case, no_rows, seeded

WRONG_SPOTS = WRONG_WHOLES + [1, 5, 0, -2]


class LayoutTest(Case):
    def test_kept(self):
        for form in (list, tuple):
            places = form([form([0, 2]), form([2, 0]), form([1, 3])])
            layout = Layout(4, places)
            self.assertEqual(vars(layout), {"spots": 4, "places": ((0, 2), (2, 0), (1, 3)), "pairs": 2})
            self.assertEqual(len(layout), 3)
        self.assertEqual(Layout(2, [[0]] * 24).pairs, 1)
        self.assertEqual(Layout(4, [[0, 1, 2, 3]]).pairs, 4)

    def test_equal(self):
        one = Layout(3, [[0, 1]])
        self.assertEqual(one, Layout(3, ((0, 1),)))
        for other in (Layout(4, [[0, 1]]), Layout(3, [[1, 0]]), Layout(3, [[0, 1], [0, 1]]), (3, ((0, 1),)), None):
            self.assertFalse(one == other)
            self.assertTrue(one != other)

    def test_refuses(self):
        for thing in WRONG_SPOTS:
            self.refuses(BadLayout(0, "spots"), Layout, thing, None)
        for thing in no_rows() + [[], (), [[0]] * 25]:
            self.refuses(BadLayout(0, "many"), Layout, 2, thing)
        for thing in no_rows() + [[], (), [0, 1, 2], [0]]:
            self.refuses(BadLayout(1, "row"), Layout, 2, [[0, 1], thing, None])
            if thing != [0]:
                self.refuses(BadLayout(0, "row"), Layout, 2, [thing, [5]])
        for thing in WRONG_WHOLES + [-1, 3]:
            self.refuses(BadLayout(2, "spot"), Layout, 3, [[0, 1], [1, 2], [0, thing], None])
        self.refuses(BadLayout(1, "twice"), Layout, 3, [[0, 1], [1, 1], None])
        self.refuses(BadLayout(1, "twice"), Layout, 4, [[0, 1, 2], [2, 1, 2]])
        # entry by entry: what is twice comes ahead of a later strange entry, and a strange one of a later twice
        self.refuses(BadLayout(0, "twice"), Layout, 3, [[1, 1, 9]])
        self.refuses(BadLayout(0, "spot"), Layout, 3, [[9, 1, 1]])
        # row by row
        self.refuses(BadLayout(0, "twice"), Layout, 3, [[1, 1], None])
        self.refuses(BadLayout(1, "row"), Layout, 3, [[0, 1], [9], [1, 1]])


class MadeTest(Case):
    def test_spot_couples(self):
        self.assertEqual(spot_couples(2), ((0, 1),))
        self.assertEqual(spot_couples(3), ((0, 1), (0, 2), (1, 2)))
        self.assertEqual(spot_couples(4), ((0, 1), (0, 2), (0, 3), (1, 2), (1, 3), (2, 3)))
        for thing in WRONG_SPOTS:
            self.refuses(BadLayout(0, "spots"), spot_couples, thing)

    def test_still_layout(self):
        for form in (list, tuple):
            self.assertEqual(still_layout(3, form([2, 0]), 4), Layout(3, ((2, 0),) * 4))
        self.assertEqual(len(still_layout(2, [0], 24)), 24)
        for thing in WRONG_SPOTS:
            self.refuses(BadLayout(0, "spots"), still_layout, thing, None, 0)
        for thing in WRONG_WHOLES + [0, -1, 25]:
            self.refuses(BadLayout(0, "many"), still_layout, 2, None, thing)
        for thing in no_rows() + [[], [0, 1, 2]]:
            self.refuses(BadLayout(0, "row"), still_layout, 2, thing, 4)
        self.refuses(BadLayout(0, "spot"), still_layout, 2, [2], 4)
        self.refuses(BadLayout(0, "twice"), still_layout, 2, [1, 1], 4)

    def test_turning_layout(self):
        self.assertEqual(turning_layout(3, 2, 4), Layout(3, ((0, 1), (1, 2), (2, 0), (0, 1))))
        self.assertEqual(turning_layout(2, 2, 1), Layout(2, ((0, 1),)))
        for spots in (2, 3, 4):
            for pairs in range(1, spots + 1):
                told = turning_layout(spots, pairs, 24)
                self.assertEqual((told.pairs, len(told)), (pairs, 24))
                for section, row in enumerate(told.places):
                    self.assertEqual(row, tuple((pair + section) % spots for pair in range(pairs)))
        for thing in WRONG_SPOTS:
            self.refuses(BadLayout(0, "spots"), turning_layout, thing, 0, 0)
        for thing in WRONG_WHOLES + [0, -1, 25]:
            self.refuses(BadLayout(0, "many"), turning_layout, 3, 0, thing)
        for thing in WRONG_WHOLES + [0, -1, 4]:
            self.refuses(BadLayout(0, "row"), turning_layout, 3, thing, 24)


class MovesTest(Case):
    def right(self, layout):
        return tuple((pole, pair, layout.places[pole - 1][pair], layout.places[pole][pair])
                     for pole in range(1, len(layout)) for pair in range(layout.pairs)
                     if layout.places[pole - 1][pair] != layout.places[pole][pair])

    def test_moves(self):
        self.assertEqual(moves_of(Layout(2, ((0, 1), (1, 0)))), ((1, 0, 0, 1), (1, 1, 1, 0)))
        self.assertEqual(moves_of(still_layout(4, [3, 1], 24)), ())
        self.assertEqual(moves_of(Layout(3, ((0, 1), (0, 2)))), ((1, 1, 1, 2),))
        for layout in all_layouts(3, 2, 3):
            self.assertEqual(moves_of(layout), self.right(layout))
        source = seeded(82)
        for _ in range(50):
            layout = random_layout(source, 4, source.randint(1, 4), source.randint(1, 24))
            self.assertEqual(moves_of(layout), self.right(layout))

    def test_legs(self):
        layout = still_layout(4, [0, 1, 2], 2)
        for form in (list, tuple):
            self.assertEqual(check_legs(layout, form([2, 0])), (0, 2))
            self.assertEqual(check_legs(layout, form([1, 2])), (1, 2))
        wrong = no_rows() + [[], [0], [0, 1, 2], [1, 1], [-1, 0], [0, 3]]
        wrong += [[0, thing] for thing in WRONG_WHOLES] + [[thing, 0] for thing in WRONG_WHOLES]
        for thing in wrong:
            self.refuses(BadLegs(), check_legs, layout, thing)
            self.refuses(BadLegs(), exchanged_layout, layout, 1, thing)
        self.refuses(BadLegs(), check_legs, still_layout(2, [0], 2), [0, 1])

    def test_exchanged(self):
        layout = Layout(4, ((0, 1, 2), (0, 3, 2), (1, 3, 2)))
        self.assertEqual(exchanged_layout(layout, 1, [0, 2]), Layout(4, ((0, 1, 2), (2, 3, 0), (2, 3, 1))))
        self.assertEqual(exchanged_layout(layout, 2, (2, 1)), Layout(4, ((0, 1, 2), (0, 3, 2), (1, 2, 3))))
        source = seeded(83)
        for _ in range(100):
            spots = source.randint(2, 4)
            pairs = source.randint(2, spots)
            layout = random_layout(source, spots, pairs, source.randint(2, 9))
            legs, pole = source.sample(range(pairs), 2), source.randint(1, len(layout) - 1)
            told = exchanged_layout(layout, pole, legs)
            for section, row in enumerate(layout.places):
                right = list(row)
                if section >= pole:
                    right[legs[0]], right[legs[1]] = right[legs[1]], right[legs[0]]
                self.assertEqual(told.places[section], tuple(right))
            self.assertEqual(told, exchanged_layout(layout, pole, legs[::-1]))
            self.assertEqual(exchanged_layout(told, pole, legs), layout)

    def test_refuses_poles(self):
        layout = still_layout(4, [0, 1], 3)
        for thing in WRONG_WHOLES + [0, 3, -1]:
            self.refuses(NoPole(thing), exchanged_layout, layout, thing, None)
        self.refuses(NoPole(1), exchanged_layout, still_layout(2, [0, 1], 1), 1, [0, 1])


if __name__ == "__main__":
    unittest.main()
