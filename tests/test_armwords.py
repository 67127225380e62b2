"""Points 8.3 and 8.7: the words that a pair needs under given moves."""

import unittest
from itertools import product

from hushedwires.armwords import arm_words, count_arm_words, lone_spot
from hushedwires.errors import NoPair, OtherLine, TooMany
from hushedwires.layouts import Layout, still_layout, turning_layout
from hushedwires.lines import Line
from hushedwires.listing import hushed_words
from hushedwires.plans import Plan
from hushedwires.spans import Span, degree_span
from hushedwires.strengths import arm_heard
from tests.arms import random_layout, small_span, spot_sum
from tests.reckon import WRONG_WHOLES, Case, all_words, fraction, long_ratio, random_line, seeded


def right_words(line, layout, pair, span):
    hums = [] if span is None else span.hums
    return [word for word in all_words(len(line)) if not any(
        spot_sum(line, word, layout, pair, hum, spot) for hum in hums for spot in range(layout.spots))]


def rows_there(line, layout, pair, span, spot):
    """How many rows of signs for the sections on a spot have sums that are all 0."""
    here = [k for k in range(len(line)) if layout.places[k][pair] == spot]
    hums = [] if span is None else span.hums
    return sum(not any(sum(sign * fraction(line.lengths[k]) * fraction(hum[k]) for sign, k in zip(signs, here))
                       for hum in hums) for signs in product((1, -1), repeat=len(here)))


class ArmWordsTest(Case):
    def check(self, line, layout, pair, span):
        right = right_words(line, layout, pair, span)
        told = list(arm_words(line, layout, pair, span))
        self.assertEqual(told, right)
        self.assertEqual(count_arm_words(line, layout, pair, span), len(right))
        stood = sorted({row[pair] for row in layout.places})
        counts = [rows_there(line, layout, pair, span, spot) for spot in stood]
        half = 1
        for one in counts:
            half *= one
        self.assertEqual(len(right), half // 2)
        lone = lone_spot(line, layout, pair, span)
        self.assertEqual(lone, next((spot for spot, one in zip(stood, counts) if one == 0), None))
        self.assertIs(lone is None, bool(right))
        return right

    def test_drawn_layouts(self):
        source = seeded(90)
        found = []
        for _ in range(200):
            count, spots = source.randint(1, 8), source.randint(2, 4)
            line = source.choice((Line.even(count), random_line(source, count)))
            layout = random_layout(source, spots, source.randint(1, spots), count)
            span = source.choice((None, small_span(source, count), degree_span(line, source.randint(1, 3))))
            pair = source.randrange(layout.pairs)
            right = self.check(line, layout, pair, span)
            found.append(len(right))
            for word in right[:3]:
                own = Layout(spots, [[row[pair]] for row in layout.places])
                self.assertIsNone(arm_heard(Plan(line, [word]), own, span, None))
        self.assertGreater(found.count(0), 20)
        self.assertGreater(sum(one > 1 for one in found), 20)

    def test_still_layouts(self):
        for count in range(1, 9):
            line = Line.even(count)
            layout = still_layout(3, [2, 0], count)
            span = degree_span(line, 1)
            self.assertEqual(list(arm_words(line, layout, 1, span)), list(hushed_words(line, span)))
            self.check(line, layout, 0, span)

    def test_most_sections(self):
        for count in (10, 12):
            line = Line.even(count)
            layout = turning_layout(2, 2, count)
            span = degree_span(line, 1)
            if count == 10:
                # five sections on each spot: an odd sum is never 0
                self.assertEqual(self.check(line, layout, 1, span), [])
                self.assertEqual(lone_spot(line, layout, 1, span), 0)
                self.assertEqual(len(self.check(line, layout, 0, None)), 512)
            self.assertEqual(count_arm_words(line, layout, 0, None), 2 ** (count - 1))
        line, layout = Line.even(12), turning_layout(3, 2, 12)
        self.assertEqual(count_arm_words(line, layout, 0, degree_span(line, 1)), 6 ** 3 // 2)
        self.assertEqual(count_arm_words(line, turning_layout(2, 1, 12), 0, degree_span(line, 1)), 20 ** 2 // 2)
        self.assertIsNone(lone_spot(line, layout, 0, degree_span(line, 1)))

    def test_lone_spot_is_the_first(self):
        line = Line.even(4)
        layout = Layout(4, ((3,), (3,), (1,), (2,)))
        self.assertEqual(lone_spot(line, layout, 0, degree_span(line, 1)), 1)
        self.assertEqual(lone_spot(line, Layout(4, ((3,), (3,), (3,), (2,))), 0, degree_span(line, 1)), 2)

    def test_long_numbers(self):
        source = seeded(91)
        line = Line.even(12)
        one = [long_ratio(source) for _ in range(6)]
        layout = random_layout(source, 3, 1, 12, 0.5)
        span = Span([[entry for entry in one for _ in range(2)]] * 6)
        self.assertGreaterEqual(count_arm_words(line, still_layout(2, [0], 12), 0, span), 2 ** 5)
        self.assertIs(lone_spot(line, layout, 0, span) is None, count_arm_words(line, layout, 0, span) > 0)

    def test_refuses(self):
        line, layout = Line.even(3), still_layout(2, [0, 1], 3)
        wide = degree_span(Line.even(4), 1)
        for call, most in ((arm_words, 10), (count_arm_words, 12), (lone_spot, 12)):
            # ahead of all else
            self.refuses(TooMany(most), call, Line.even(most + 1), layout, None, wide)
            self.refuses(OtherLine(), call, Line.even(most), layout, None, wide)
            self.refuses(OtherLine(), call, Line.even(4), layout, None, wide)
            for thing in WRONG_WHOLES + [-1, 2]:
                self.refuses(NoPair(thing), call, line, layout, thing, wide)
            self.refuses(OtherLine(), call, line, layout, 1, wide)


if __name__ == "__main__":
    unittest.main()
