"""Points 8.3 to 8.6 and 8.11: what is heard on spots of unknown strength."""

import unittest
from itertools import product

from hushedwires.errors import BadGroups, BadHum, BadStrengths, NoPair, OtherLine, OtherPairs
from hushedwires.layouts import Layout, still_layout
from hushedwires.lines import Line
from hushedwires.plans import Plan, plan_hushed
from hushedwires.spans import degree_span
from hushedwires.strengths import (
    CoupleHeard, GroupHeard, SpotHeard, StrengthRange, arm_heard, couple_noise, couple_sums, group_heard,
    heard_strengths, loudest_strengths, spot_noise, spot_sums)
from tests.arms import (
    couple_sum, couples, product_of_words, random_arm, random_layout, random_strengths, small_span, spot_sum, weighed)
from tests.reckon import (
    WRONG_RATIOS, WRONG_WHOLES, Case, fraction, long_ratio, no_rows, noise, random_ratio, ratio, ratios, seeded)

PLAN = Plan(Line.even(2), [(1, 1), (1, 1)])
CROSSED = Layout(2, ((0, 1), (1, 0)))
LEVEL = degree_span(Line.even(2), 1)
HUM = ratios(1, 1)


def right_spot_sums(plan, layout, pair, hum):
    return [spot_sum(plan.line, plan.words[pair], layout, pair, hum, spot) for spot in range(layout.spots)]


def right_couple_sums(plan, layout, pair, other, hum):
    signs = product_of_words(plan.words[pair], plan.words[other])
    return [couple_sum(plan.line, signs, layout, pair, other, hum, couple) for couple in couples(layout.spots)]


def right_heard(plan, layout, outside, between):
    for pair in range(len(plan)):
        for number, hum in enumerate([] if outside is None else outside.hums):
            for spot, one in enumerate(right_spot_sums(plan, layout, pair, hum)):
                if one:
                    return SpotHeard(pair, spot, number, ratio(one))
    for pair, other in couples(len(plan)):
        for number, hum in enumerate([] if between is None else between.hums):
            for couple, one in zip(couples(layout.spots), right_couple_sums(plan, layout, pair, other, hum)):
                if one:
                    return CoupleHeard(pair, other, couple, number, ratio(one))
    return None


class SumsTest(Case):
    def test_examples(self):
        self.assertEqual(spot_sums(PLAN, CROSSED, 0, HUM), ratios(1, 1))
        self.assertEqual(couple_sums(PLAN, CROSSED, 0, 1, HUM), ratios(2))
        self.assertEqual(arm_heard(PLAN, CROSSED, LEVEL, LEVEL), SpotHeard(0, 0, 0, ratio(1)))

    def test_drawn_arms(self):
        source = seeded(84)
        for _ in range(150):
            plan, layout = random_arm(source, long=24)
            hum = [random_ratio(source) for _ in plan.line.lengths]
            for pair in range(len(plan)):
                right = right_spot_sums(plan, layout, pair, hum)
                told = spot_sums(plan, layout, pair, source.choice((list, tuple))(hum))
                self.assertRatios(told, layout.spots)
                self.assertEqual(told, ratios(*right))
                self.assertEqual(sum(right), noise(plan.line, plan.words[pair], hum))
                strengths = random_strengths(source, layout.spots)
                self.assertEqual(spot_noise(plan, layout, pair, hum, strengths), weighed(strengths, right))
            for pair, other in couples(len(plan)):
                right = right_couple_sums(plan, layout, pair, other, hum)
                for one, against in ((pair, other), (other, pair)):
                    told = couple_sums(plan, layout, one, against, hum)
                    self.assertRatios(told, len(couples(layout.spots)))
                    self.assertEqual(told, ratios(*right))
                    strengths = tuple(random_strengths(source, len(right)))
                    self.assertEqual(couple_noise(plan, layout, one, against, hum, strengths), weighed(strengths, right))
                both = product_of_words(plan.words[pair], plan.words[other])
                self.assertEqual(sum(right), noise(plan.line, both, hum))

    def test_refuses(self):
        wide = Plan(Line.even(3), [(1, 1, 1)] * 2)
        lone = Plan(Line.even(2), [(1, 1)])
        calls = [(spot_sums, [0, HUM]), (spot_noise, [0, HUM, HUM]), (couple_sums, [0, 1, HUM]),
                 (couple_noise, [0, 1, HUM, HUM[:1]]), (arm_heard, [LEVEL, LEVEL]), (group_heard, [LEVEL, [0, 1]]),
                 (loudest_strengths, [0, HUM, HUM, HUM])]
        for call, given in calls:
            self.refuses(OtherLine(), call, wide, CROSSED, *given)
            self.refuses(OtherPairs(), call, lone, CROSSED, *given)
            self.refuses(OtherLine(), call, Plan(Line.even(3), [(1, 1, 1)]), CROSSED, *[None] * len(given))
            self.refuses(OtherPairs(), call, lone, CROSSED, *[7] * len(given))
        for call in (spot_sums, spot_noise, loudest_strengths):
            more = [None] * {spot_sums: 1, spot_noise: 2, loudest_strengths: 3}[call]
            for thing in WRONG_WHOLES + [-1, 2]:
                self.refuses(NoPair(thing), call, PLAN, CROSSED, thing, *more)
            self.refuse_hums(call, [0], more[1:])
        for call in (couple_sums, couple_noise):
            more = [None] * {couple_sums: 1, couple_noise: 2}[call]
            for thing in WRONG_WHOLES + [-1, 2]:
                self.refuses(NoPair(thing), call, PLAN, CROSSED, thing, 9, *more)
                self.refuses(NoPair(thing), call, PLAN, CROSSED, 0, thing, *more)
            self.refuses(NoPair(1), call, PLAN, CROSSED, 1, 1, *more)
            self.refuse_hums(call, [0, 1], more[1:])

    def refuse_hums(self, call, pairs, more):
        for thing in no_rows() + [[], ratios(1), ratios(1, 1, 1)]:
            self.refuses(BadHum(0), call, PLAN, CROSSED, *pairs, thing, *more)
        for thing in WRONG_RATIOS:
            self.refuses(BadHum(1), call, PLAN, CROSSED, *pairs, [(1, 1), thing], *more)

    def test_refuses_strengths(self):
        couple = Layout(3, ((0, 1), (1, 0)))
        for thing in no_rows() + [[], ratios(1), ratios(1, 1, 1)]:
            self.refuses(BadStrengths(0), spot_noise, PLAN, CROSSED, 0, HUM, thing)
        for thing in no_rows() + [[], ratios(1, 1), ratios(1, 1, 1, 1)]:
            self.refuses(BadStrengths(0), couple_noise, PLAN, couple, 0, 1, HUM, thing)
        for thing in WRONG_RATIOS:
            self.refuses(BadStrengths(1), spot_noise, PLAN, CROSSED, 0, HUM, [(1, 1), thing])
            self.refuses(BadStrengths(0), couple_noise, PLAN, CROSSED, 0, 1, HUM, [thing])


class ArmHeardTest(Case):
    def test_drawn_arms(self):
        source = seeded(85)
        seen = {None: 0, SpotHeard: 0, CoupleHeard: 0}
        for _ in range(500):
            plan, layout = random_arm(source, long=6)
            count = len(plan.line)
            outside, between = [source.choice((None, small_span(source, count), small_span(source, count)))
                                for _ in range(2)]
            told = arm_heard(plan, layout, outside, between)
            right = right_heard(plan, layout, outside, between)
            self.assertEqual(told, right)
            self.assertIs(type(told), type(right))
            seen[None if told is None else type(told)] += 1
            if told is None:
                self.assertTrue(plan_hushed(plan, outside, between))
                self.check_quiet(source, plan, layout, outside, between)
            else:
                self.check_heard(plan, layout, outside, between, told)
        self.assertGreater(min(seen.values()), 40)

    def check_quiet(self, source, plan, layout, outside, between):
        """At drawn strengths nothing is heard."""
        for hum in () if outside is None else outside.hums:
            for pair in range(len(plan)):
                self.assertEqual(spot_noise(plan, layout, pair, hum, random_strengths(source, layout.spots)), (0, 1))
        for hum in () if between is None else between.hums:
            for pair, other in couples(len(plan)):
                strengths = random_strengths(source, len(couples(layout.spots)))
                self.assertEqual(couple_noise(plan, layout, pair, other, hum, strengths), (0, 1))

    def check_heard(self, plan, layout, outside, between, told):
        strengths = heard_strengths(layout, told)
        self.assertEqual(sorted(strengths), [(0, 1)] * (len(strengths) - 1) + [(1, 1)])
        if isinstance(told, SpotHeard):
            self.assertEqual(len(strengths), layout.spots)
            hum = outside.hums[told.hum]
            self.assertEqual(spot_noise(plan, layout, told.pair, hum, strengths), told.noise)
        else:
            hum = between.hums[told.hum]
            self.assertEqual(couple_noise(plan, layout, told.pair, told.other, hum, strengths), told.noise)

    def test_still_layouts(self):
        source = seeded(86)
        seen = set()
        for _ in range(200):
            plan, layout = random_arm(source, long=5)
            still = still_layout(layout.spots, layout.places[0], len(layout))
            outside, between = small_span(source, len(plan.line), 1), small_span(source, len(plan.line), 1)
            for one, other in ((outside, between), (outside, None), (None, between)):
                quiet = arm_heard(plan, still, one, other) is None
                self.assertIs(quiet, plan_hushed(plan, one, other))
                seen.add(quiet)
        self.assertEqual(seen, {True, False})

    def test_strengths_of_couples(self):
        layout = still_layout(4, [2, 1], 2)
        for place, couple in enumerate(couples(4)):
            told = heard_strengths(layout, CoupleHeard(0, 1, couple, 0, (1, 1)))
            self.assertEqual(told, tuple(ratio(place == number) for number in range(6)))
        for spot in range(4):
            told = heard_strengths(layout, SpotHeard(0, spot, 0, (1, 1)))
            self.assertEqual(told, tuple(ratio(spot == number) for number in range(4)))

    def test_refuses_spans(self):
        wide, lone = degree_span(Line.even(3), 1), Plan(Line.even(2), [(1, 1)])
        self.refuses(OtherLine(), arm_heard, PLAN, CROSSED, wide, None)
        self.refuses(OtherLine(), arm_heard, PLAN, CROSSED, None, wide)
        self.refuses(OtherLine(), arm_heard, lone, still_layout(2, [0], 2), LEVEL, wide)
        self.assertIsNone(arm_heard(PLAN, CROSSED, None, None))


class GroupTest(Case):
    def test_drawn_groups(self):
        source = seeded(87)
        seen = set()
        for _ in range(300):
            plan, layout = random_arm(source, long=5)
            span = source.choice((None, small_span(source, len(plan.line)), small_span(source, len(plan.line))))
            for groups in source.sample(list(product(range(layout.spots), repeat=layout.spots)), 4):
                right = None
                for pair, number, group in product(range(len(plan)), range(0 if span is None else len(span)),
                                                   range(layout.spots)):
                    sums = right_spot_sums(plan, layout, pair, span.hums[number])
                    total = sum(one for one, own in zip(sums, groups) if own == group)
                    if total and right is None:
                        right = GroupHeard(pair, group, number, ratio(total))
                told = group_heard(plan, layout, span, source.choice((list, tuple))(groups))
                self.assertEqual(told, right)
                seen.add(told is None)
            # groups of one spot each ask what a layout asks, one group of all what a plan asks
            lone = group_heard(plan, layout, span, range_row(layout.spots))
            heard = arm_heard(plan, layout, span, None)
            self.assertEqual(lone, heard and GroupHeard(heard.pair, heard.spot, heard.hum, heard.noise))
            whole = group_heard(plan, layout, span, [1] * layout.spots)
            self.assertIs(whole is None, plan_hushed(plan, span, None))
        self.assertEqual(seen, {True, False})

    def test_refuses(self):
        self.refuses(OtherLine(), group_heard, PLAN, CROSSED, degree_span(Line.even(3), 1), None)
        for thing in no_rows() + [[], [0], [0, 1, 0]]:
            self.refuses(BadGroups(), group_heard, PLAN, CROSSED, LEVEL, thing)
            self.refuses(BadGroups(), group_heard, PLAN, CROSSED, None, thing)
        for thing in WRONG_WHOLES + [-1, 2]:
            self.refuses(BadGroups(), group_heard, PLAN, CROSSED, LEVEL, [0, thing])


def range_row(count):
    return list(range(count))


class LoudestTest(Case):
    def test_drawn_ranges(self):
        source = seeded(88)
        for _ in range(150):
            plan, layout = random_arm(source, long=8)
            hum = [random_ratio(source, -2, 2) for _ in plan.line.lengths]
            lows = random_strengths(source, layout.spots)
            highs = [ratio(fraction(low) + source.choice((0, 1, 3))) for low in lows]
            pair = source.randrange(len(plan))
            told = loudest_strengths(plan, layout, pair, hum, lows, highs)
            self.assertIs(type(told), StrengthRange)
            right = right_spot_sums(plan, layout, pair, hum)
            corners = [fraction(weighed(corner, right)) for corner in product(*zip(lows, highs))]
            self.assertEqual((told.least, told.greatest), (ratio(min(corners)), ratio(max(corners))))
            for strengths, amount in ((told.least_strengths, told.least), (told.greatest_strengths, told.greatest)):
                self.assertRatios(strengths, layout.spots)
                self.assertEqual(spot_noise(plan, layout, pair, hum, strengths), amount)
                for low, one, high in zip(lows, strengths, highs):
                    self.assertTrue(fraction(low) <= fraction(one) <= fraction(high))

    def test_refuses(self):
        for thing in no_rows() + [[], ratios(1), ratios(1, 1, 1)]:
            self.refuses(BadStrengths(0), loudest_strengths, PLAN, CROSSED, 0, HUM, thing, None)
            self.refuses(BadStrengths(0), loudest_strengths, PLAN, CROSSED, 0, HUM, HUM, thing)
        for thing in WRONG_RATIOS:
            self.refuses(BadStrengths(1), loudest_strengths, PLAN, CROSSED, 0, HUM, [(1, 1), thing], None)
            # a high that is no ratio comes ahead of one that is below its low
            self.refuses(BadStrengths(1), loudest_strengths, PLAN, CROSSED, 0, HUM, HUM, [(0, 1), thing])
        self.refuses(BadStrengths(0), loudest_strengths, PLAN, CROSSED, 0, HUM, HUM, ratios(0, 0))
        self.refuses(BadStrengths(1), loudest_strengths, PLAN, CROSSED, 0, HUM, HUM, [(1, 1), (1, 2)])

    def test_long_numbers(self):
        source = seeded(89)
        layout = random_layout(source, 4, 4, 24)
        plan = Plan(Line.even(24), [(1, -1) * 12] * 4)
        hum = [long_ratio(source) for _ in range(24)]
        told = loudest_strengths(plan, layout, 0, hum, ratios(-1, -1, -1, -1), ratios(1, 1, 1, 1))
        sizes = [abs(one) for one in right_spot_sums(plan, layout, 0, hum)]
        self.assertEqual((told.least, told.greatest), (ratio(-sum(sizes)), ratio(sum(sizes))))


class ResultsTest(Case):
    def test_results(self):
        names = {SpotHeard: "pair spot hum noise", CoupleHeard: "pair other spots hum noise",
                 GroupHeard: "pair group hum noise", StrengthRange: "least greatest least_strengths greatest_strengths"}
        for made, text in names.items():
            given = {name: [name] for name in text.split()}
            one = made(**given)
            self.assertEqual(vars(one), given)
            self.assertEqual(one, made(*given.values()))
            for name in given:
                self.assertNotEqual(one, made(**{**given, name: None}))
                self.assertIs(getattr(one, name), given[name])
        self.assertFalse(SpotHeard(0, 1, 2, 3) == GroupHeard(0, 1, 2, 3))
        self.assertFalse(GroupHeard(0, 1, 2, 3) == SpotHeard(0, 1, 2, 3))


if __name__ == "__main__":
    unittest.main()
