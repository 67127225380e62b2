"""Points 5.9 to 5.11: hums split among the pairs of upright plans."""

import unittest
from fractions import Fraction

from hushedwires.errors import BadHum, NotUpright
from hushedwires.lines import Line
from hushedwires.planlists import all_plans
from hushedwires.plans import Plan
from hushedwires.spans import degree_span
from hushedwires.splits import Split, split_hum, unheard_of
from tests.reckon import (
    WRONG_RATIOS, Case, fraction, fractions, line_from, long_ratio, no_rows, noise, random_ratio, ratio, ratios, seeded)

HALVES, TURNS, ENDS, PLAIN = (1, 1, -1, -1), (1, -1, 1, -1), (1, -1, -1, 1), (1, 1, 1, 1)


def upright_plans():
    plans = []
    for line in (line_from([1, 1]), Line.even(4), line_from([3, 1, 2, 4], [0, 1, 7, 9]), Line.even(6), Line.even(8),
                 line_from([1, 2, 1, 2, 1, 2, 1, 2]), line_from([Fraction(1, 2)] * 4)):
        level = degree_span(Line.even(len(line)), 1)
        for pairs in range(1, 8):
            plans += list(all_plans(line, level, level, pairs))[-3:]
    return plans


class SplitTest(Case):
    def test_example(self):
        plan = Plan(Line.even(4), [HALVES, TURNS])
        self.assertEqual(split_hum(plan, list(ratios(1, 2, 3, 4))),
                         Split(ratio(5, 2), ratios(-1, Fraction(-1, 2)), ratios(0, 0, 0, 0)))
        self.assertEqual(unheard_of(plan, ratios(1, 2, 3, 4)), ratio(0))
        self.assertEqual(split_hum(plan, ratios(1, 0, 0, 0)), Split(
            ratio(1, 4), ratios(Fraction(1, 4), Fraction(1, 4)),
            ratios(Fraction(1, 4), Fraction(-1, 4), Fraction(-1, 4), Fraction(1, 4))))
        self.assertEqual(unheard_of(plan, ratios(1, 0, 0, 0)), ratio(1))

    def test_upright_plans(self):
        source = seeded(59)
        plans = upright_plans()
        self.assertGreater(len({len(plan) for plan in plans}), 5)
        for plan in plans:
            for _ in range(4):
                self.check(plan, [random_ratio(source) for _ in plan.line.lengths])

    def check(self, plan, hum):
        line, lengths, count = plan.line, fractions(plan.line.lengths), len(plan.line)
        told = split_hum(plan, hum)
        self.assertIs(type(told), Split)
        self.assertRatio(told.level)
        self.assertRatios(told.shares, len(plan))
        self.assertRatios(told.rest, count)
        rest = fractions(told.rest)
        self.assertEqual(sum(length * entry for length, entry in zip(lengths, rest)), 0)
        for word in plan.words:
            self.assertEqual(noise(line, word, told.rest), 0)
        made = [fraction(told.level) + rest[section] + sum(
            fraction(share) * word[section] for share, word in zip(told.shares, plan.words))
            for section in range(count)]
        self.assertEqual(made, fractions(hum))
        unheard = unheard_of(plan, hum)
        self.assertRatio(unheard)
        self.assertEqual(fraction(unheard), sum(lengths) * sum(
            length * entry ** 2 for length, entry in zip(lengths, rest)))
        self.assertGreaterEqual(fraction(unheard), 0)
        self.assertEqual(unheard == ratio(0), not any(rest))
        if len(plan) == count - 1:
            self.assertEqual(unheard, ratio(0))

    def test_no_more_than_sections(self):
        for plan in upright_plans():
            self.assertLess(len(plan), len(plan.line))

    def test_long_numbers(self):
        source = seeded(60)
        line = Line([long_ratio(source)] * 4, ratios(0, 1, 2, 3))
        self.check(Plan(line, [HALVES, TURNS]), [long_ratio(source) for _ in range(4)])


class RefusedTest(Case):
    plan = Plan(Line.even(4), [HALVES, TURNS])

    def test_bad_hum(self):
        for call in (split_hum, unheard_of):
            for thing in no_rows() + [(), ratios(1, 1, 1), ratios(1, 1, 1, 1, 1)]:
                self.refuses(BadHum(0), call, self.plan, thing)
                self.refuses(BadHum(0), call, Plan(Line.even(4), [PLAIN]), thing)
            for thing in WRONG_RATIOS:
                self.refuses(BadHum(2), call, self.plan, [(1, 1), (0, 1), thing, thing])

    def test_not_upright(self):
        line, hum = Line.even(4), ratios(1, 2, 3, 4)
        for call in (split_hum, unheard_of):
            self.refuses(NotUpright(0, None), call, Plan(line, [PLAIN]), hum)
            self.refuses(NotUpright(2, None), call, Plan(line, [HALVES, HALVES, PLAIN]), hum)
            self.refuses(NotUpright(0, 1), call, Plan(line, [HALVES, HALVES, ENDS]), hum)
            self.refuses(NotUpright(1, 3), call, Plan(line, [HALVES, TURNS, ENDS, TURNS]), hum)
            self.refuses(NotUpright(0, None), call, Plan(line_from([1, 1, 1, 2]), [HALVES]), hum)
            self.refuses(BadHum(0), call, Plan(line, [PLAIN]), hum[:3])

    def test_result(self):
        told = ["as given"]
        self.assertIs(Split(told, 0, 0).level, told)
        self.assertEqual(vars(Split(level=1, shares=2, rest=3)), {"level": 1, "shares": 2, "rest": 3})
        self.assertEqual(Split(1, 2, 3), Split(1, 2, 3))
        for other in (Split(0, 2, 3), Split(1, 0, 3), Split(1, 2, 0), (1, 2, 3)):
            self.assertNotEqual(Split(1, 2, 3), other)


if __name__ == "__main__":
    unittest.main()
