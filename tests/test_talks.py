"""Points 8.3, 8.8, 8.9 and 8.11: further talks over two pairs."""

import unittest
from itertools import permutations

from hushedwires.errors import (
    BadHum, BadLegs, BadSpots, BadStrengths, NoPair, NoSwap, OtherLine, OtherPairs, TooMany)
from hushedwires.layouts import Layout, exchanged_layout, moves_of, still_layout
from hushedwires.lines import Line
from hushedwires.listing import least_crossed
from hushedwires.plans import Plan
from hushedwires.spans import Span, degree_span, is_hushed
from hushedwires.strengths import couple_sums, spot_sums
from hushedwires.talks import (
    ReachHeard, TalkHeard, further_talk, least_talk, stand_sums, swap_word, talk_lots, talk_noise, talk_reaches)
from hushedwires.words import crossings_of
from tests.arms import (
    all_layouts, couple_sum, couples, random_arm, random_layout, random_strengths, small_span, stand_sum, weighed)
from tests.reckon import (
    WRONG_RATIOS, WRONG_WHOLES, Case, fraction, long_ratio, no_rows, random_line, random_ratio, ratio, ratios, seeded)

LINE = Line.even(2)
SWAPPED = Layout(2, ((0, 1), (1, 0)))
THREE = Layout(3, ((0, 1, 2), (1, 0, 2)))
LEVEL = degree_span(LINE, 1)
HUM = ratios(1, 1)


def right_differences(line, layout, legs, hum):
    low, high = sorted(legs)
    return [stand_sum(line, layout, low, hum, spot) - stand_sum(line, layout, high, hum, spot)
            for spot in range(layout.spots)]


def right_talk(line, layout, legs, span):
    for number, hum in enumerate([] if span is None else span.hums):
        for spot, one in enumerate(right_differences(line, layout, legs, hum)):
            if one:
                return TalkHeard(spot, number, ratio(one))
    return None


def right_reach(plan, layout, legs, pair, span):
    low, high = sorted(legs)
    for number, hum in enumerate([] if span is None else span.hums):
        for couple in couples(layout.spots):
            one, other = [couple_sum(plan.line, plan.words[pair], layout, pair, leg, hum, couple) for leg in (low, high)]
            if one != other:
                return ReachHeard(couple, number, ratio(one - other))
    return None


class StandTest(Case):
    def test_drawn_layouts(self):
        source = seeded(92)
        for _ in range(100):
            plan, layout = random_arm(source, long=24)
            line = plan.line
            hum = [random_ratio(source) for _ in line.lengths]
            for pair in range(layout.pairs):
                told = stand_sums(line, layout, pair, hum)
                self.assertRatios(told, layout.spots)
                self.assertEqual(told, ratios(*[stand_sum(line, layout, pair, hum, spot) for spot in range(layout.spots)]))
                plain = Plan(line, [(1,) * len(line)] * layout.pairs)
                self.assertEqual(told, spot_sums(plain, layout, pair, hum))
            for legs in couples(layout.pairs):
                strengths = random_strengths(source, layout.spots)
                right = weighed(strengths, right_differences(line, layout, legs, hum))
                for turned in (legs, list(legs[::-1])):
                    self.assertEqual(talk_noise(line, layout, turned, hum, strengths), right)

    def test_refuses(self):
        wide = Line.even(3)
        for call, more in ((stand_sums, [0, HUM]), (talk_noise, [[0, 1], HUM, HUM]), (further_talk, [[0, 1], LEVEL]),
                           (talk_lots, [LEVEL])):
            self.refuses(OtherLine(), call, wide, SWAPPED, *more)
            self.refuses(OtherLine(), call, wide, SWAPPED, *[None] * len(more))
        for thing in WRONG_WHOLES + [-1, 2]:
            self.refuses(NoPair(thing), stand_sums, LINE, SWAPPED, thing, None)
        for thing in no_rows() + [[], [0], [0, 0], [0, 2], [True, 0]]:
            self.refuses(BadLegs(), talk_noise, LINE, SWAPPED, thing, None, None)
            self.refuses(BadLegs(), further_talk, LINE, SWAPPED, thing, degree_span(wide, 1))
        for thing in no_rows() + [[], ratios(1), ratios(1, 1, 1)]:
            self.refuses(BadHum(0), stand_sums, LINE, SWAPPED, 0, thing)
            self.refuses(BadHum(0), talk_noise, LINE, SWAPPED, [0, 1], thing, None)
            self.refuses(BadStrengths(0), talk_noise, LINE, SWAPPED, [0, 1], HUM, thing)
        for thing in WRONG_RATIOS:
            self.refuses(BadHum(1), stand_sums, LINE, SWAPPED, 1, [(1, 1), thing])
            self.refuses(BadHum(1), talk_noise, LINE, SWAPPED, [0, 1], [(1, 1), thing], None)
            self.refuses(BadStrengths(1), talk_noise, LINE, SWAPPED, [0, 1], HUM, [(1, 1), thing])
        self.refuses(OtherLine(), further_talk, LINE, SWAPPED, [0, 1], degree_span(wide, 1))
        self.refuses(OtherLine(), talk_lots, LINE, SWAPPED, degree_span(wide, 1))


class TalkTest(Case):
    def test_example(self):
        self.assertIsNone(further_talk(LINE, SWAPPED, [0, 1], LEVEL))
        self.assertEqual(further_talk(LINE, still_layout(2, [0, 1], 2), [1, 0], LEVEL), TalkHeard(0, 0, (2, 1)))
        self.assertEqual(further_talk(LINE, still_layout(2, [1, 0], 2), [1, 0], LEVEL), TalkHeard(0, 0, (-2, 1)))

    def test_drawn_talks(self):
        source = seeded(93)
        seen = set()
        for _ in range(300):
            spots = source.randint(2, 4)
            count = source.randint(1, 6)
            line = source.choice((Line.even(count), random_line(source, count)))
            layout = random_layout(source, spots, source.randint(2, spots), count, 0.4)
            span = source.choice((None, small_span(source, count), small_span(source, count)))
            lots = talk_lots(line, layout, span)
            self.assertEqual(sorted(sum(lots, ())), list(range(layout.pairs)))
            self.assertEqual(lots, tuple(sorted(tuple(sorted(lot)) for lot in lots)))
            for legs in couples(layout.pairs):
                told = further_talk(line, layout, legs, span)
                self.assertEqual(told, right_talk(line, layout, legs, span))
                self.assertEqual(told, further_talk(line, layout, list(legs[::-1]), span))
                self.assertIs(told is None, any(set(legs) <= set(lot) for lot in lots))
                for hum in [] if span is None or told is not None else span.hums:
                    strengths = random_strengths(source, spots)
                    self.assertEqual(talk_noise(line, layout, legs, hum, strengths), (0, 1))
                if told is not None:
                    strengths = [ratio(spot == told.spot) for spot in range(spots)]
                    self.assertEqual(talk_noise(line, layout, legs, span.hums[told.hum], strengths), told.difference)
                seen.add(told is None)
        self.assertEqual(seen, {True, False})

    def test_exchanges(self):
        source = seeded(94)
        for _ in range(100):
            spots, count = source.randint(2, 4), source.randint(2, 8)
            line = random_line(source, count)
            layout = random_layout(source, spots, source.randint(2, spots), count, 0.4)
            legs, pole = source.sample(range(layout.pairs), 2), source.randint(1, count - 1)
            other = exchanged_layout(layout, pole, legs)
            hum = [random_ratio(source) for _ in range(count)]
            sums = [[sum(fraction(stand_sums(line, one, leg, hum)[spot]) for leg in legs) for spot in range(spots)]
                    for one in (layout, other)]
            self.assertEqual(sums[0], sums[1])
            plan = Plan(line, [source.choice(((1,) * count, (1, -1) * 4))[:count]] * layout.pairs)
            self.assertEqual(couple_sums(plan, layout, *legs, hum), couple_sums(plan, other, *legs, hum))

    def test_long_numbers(self):
        source = seeded(95)
        line = Line.even(24)
        span = Span([[long_ratio(source) for _ in range(24)] for _ in range(6)])
        layout = random_layout(source, 4, 4, 24)
        self.assertIsInstance(further_talk(line, layout, [0, 3], span), TalkHeard)
        self.assertEqual(talk_lots(line, layout, span), ((0,), (1,), (2,), (3,)))


class ReachesTest(Case):
    def test_drawn_plans(self):
        source = seeded(96)
        seen = set()
        for _ in range(300):
            plan, layout = random_arm(source, long=6)
            if layout.pairs < 3:
                continue
            span = source.choice((None, small_span(source, len(plan.line)), small_span(source, len(plan.line), 1)))
            for low, high, pair in permutations(range(layout.pairs), 3):
                told = talk_reaches(plan, layout, source.choice((list, tuple))([low, high]), pair, span)
                self.assertEqual(told, right_reach(plan, layout, (low, high), pair, span))
                self.assertEqual(told, talk_reaches(plan, layout, [high, low], pair, span))
                seen.add(told is None)
        self.assertEqual(seen, {True, False})

    def test_refuses(self):
        plan = Plan(LINE, [(1, 1)] * 3)
        wide = degree_span(Line.even(3), 1)
        self.refuses(OtherLine(), talk_reaches, Plan(Line.even(3), [(1, 1, 1)]), THREE, None, None, None)
        self.refuses(OtherPairs(), talk_reaches, Plan(LINE, [(1, 1)]), THREE, None, None, None)
        for thing in no_rows() + [[], [0], [0, 0], [0, 3], [0, 1, 2]]:
            self.refuses(BadLegs(), talk_reaches, plan, THREE, thing, None, None)
        for thing in WRONG_WHOLES + [-1, 3, 0, 2]:
            self.refuses(NoPair(thing), talk_reaches, plan, THREE, [2, 0], thing, wide)
        self.refuses(OtherLine(), talk_reaches, plan, THREE, [0, 1], 2, wide)
        self.assertIsNone(talk_reaches(plan, THREE, [0, 1], 2, None))


class SwapTest(Case):
    def test_words(self):
        for count in range(1, 6):
            line = Line.even(count)
            for layout in all_layouts(2, 2, count):
                word = swap_word(layout)
                self.assertEqual(word, tuple(1 if row[0] == layout.places[0][0] else -1 for row in layout.places))
                for degree in (1, 2):
                    span = degree_span(line, degree)
                    self.assertIs(further_talk(line, layout, [0, 1], span) is None, is_hushed(line, word, span))

    def test_refuses(self):
        for layout in (THREE, still_layout(2, [0], 3), still_layout(3, [0, 1], 3), still_layout(4, [0, 1, 2, 3], 1)):
            self.refuses(NoSwap(), swap_word, layout)


class LeastTest(Case):
    def check(self, line, spots, span):
        best = None
        for layout in all_layouts(spots, 2, len(line)):
            if right_talk(line, layout, (0, 1), span) is None:
                found = (len(moves_of(layout)), layout.places)
                best = found if best is None else min(best, found)
        told = least_talk(line, spots, span)
        self.assertEqual(told, None if best is None else Layout(spots, best[1]))
        if told is not None:
            self.assertIsNone(further_talk(line, told, [1, 0], span))
            still = span is None or all(sum(fraction(one) * fraction(entry) for one, entry in zip(line.lengths, hum)) == 0
                                        for hum in span.hums)
            self.assertIs(best[0] == 0, still)
            self.assertNotEqual(best[0], 1)
        if spots == 2 and span is not None:
            word = least_crossed(line, span)
            self.assertIs(word is None, told is None)
            if word is not None:
                self.assertEqual(best[0], 2 * len(crossings_of(word)))
        return None if best is None else best[0]

    def test_examples(self):
        line = Line.even(3)
        told = least_talk(line, 3, degree_span(line, 1))
        self.assertEqual(told, Layout(3, ((0, 1), (1, 2), (2, 0))))
        self.assertEqual(len(moves_of(told)), 4)
        self.assertIsNone(least_talk(line, 2, degree_span(line, 1)))
        self.assertEqual(least_talk(LINE, 2, LEVEL), SWAPPED)
        self.assertEqual(least_talk(LINE, 3, None), still_layout(3, [0, 1], 2))

    def test_small_lines(self):
        source = seeded(97)
        moves = []
        for spots, most in ((2, 8), (3, 4)):
            for count in range(1, most + 1):
                line = Line.even(count)
                spans = [None, degree_span(line, 1), degree_span(line, 2), small_span(source, count), small_span(source, count)]
                moves += [self.check(line, spots, span) for span in spans]
                moves.append(self.check(random_line(source, count), spots, small_span(source, count)))
        line = Line.even(5)
        moves += [self.check(line, 3, span) for span in (degree_span(line, 1), small_span(source, 5), None)]
        self.assertIn(None, moves)
        self.assertEqual(set(moves) - {3, 6}, {None, 0, 2, 4})

    def test_refuses(self):
        for thing in WRONG_WHOLES + [1, 4, 0, -1]:
            self.refuses(BadSpots(), least_talk, Line.even(24), thing, LEVEL)
        self.refuses(TooMany(8), least_talk, Line.even(9), 2, LEVEL)
        self.refuses(TooMany(5), least_talk, Line.even(6), 3, LEVEL)
        self.refuses(OtherLine(), least_talk, Line.even(8), 2, LEVEL)
        self.refuses(OtherLine(), least_talk, Line.even(5), 3, LEVEL)


class ResultsTest(Case):
    def test_results(self):
        for made, text in ((TalkHeard, "spot hum difference"), (ReachHeard, "spots hum difference")):
            given = {name: [name] for name in text.split()}
            one = made(**given)
            self.assertEqual(vars(one), given)
            self.assertEqual(one, made(*given.values()))
            for name in given:
                self.assertNotEqual(one, made(**{**given, name: None}))
        self.assertFalse(TalkHeard(0, 1, 2) == ReachHeard(0, 1, 2))
        self.assertFalse(ReachHeard(0, 1, 2) == TalkHeard(0, 1, 2))


if __name__ == "__main__":
    unittest.main()
