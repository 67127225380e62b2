"""Points 5.1, 5.2 and 5.11: further words of plans."""

import itertools
import unittest
from math import comb

from hushedwires.errors import OtherLine, TooMany
from hushedwires.further import all_further, count_further, further_word, hums_for, is_full
from hushedwires.layers import Layers, layers_fault
from hushedwires.lines import Line
from hushedwires.plans import Plan, plan_hushed
from hushedwires.spans import Span, degree_span
from tests.reckon import Case, all_words, noise, random_line, random_word, ratios, seeded

HALVES, TURNS, ENDS = (1, 1, -1, -1), (1, -1, 1, -1), (1, -1, -1, 1)


def hushed(line, word, span):
    return span is None or not any(noise(line, word, hum) for hum in span.hums)


def right_further(plan, outside, between):
    found = []
    for word in all_words(len(plan.line)):
        products = [tuple(one * other for one, other in zip(word, own)) for own in plan.words]
        if hushed(plan.line, word, outside) and all(hushed(plan.line, one, between) for one in products):
            found.append(word)
    return found


def random_case(source):
    count = source.choice((1, 2, 3, 4, 4, 5, 6))
    line = source.choice((Line.even(count), random_line(source, count)))
    spans = []
    for _ in range(2):
        small = Span([ratios(*[source.choice((-1, 0, 0, 1)) for _ in range(count)])
                      for _ in range(source.randint(1, 2))])
        spans.append(source.choice((None, small, small, degree_span(line, 1))))
    words = [random_word(source, count) for _ in range(source.randint(1, 3))]
    if source.random() < 0.3:
        words.append(words[0])
    return Plan(line, words), spans[0], spans[1]


class FurtherTest(Case):
    line = Line.even(4)
    level = degree_span(Line.even(4), 1)
    plan = Plan(Line.even(4), [HALVES, TURNS])

    def test_example(self):
        self.assertEqual(further_word(self.plan, self.level, self.level), ENDS)
        self.assertEqual(list(all_further(self.plan, self.level, self.level)), [ENDS])
        self.assertEqual(count_further(self.plan, self.level, self.level), 1)
        self.assertIs(is_full(self.plan, self.level, self.level), False)
        self.assertIs(is_full(self.plan.with_word(ENDS), self.level, self.level), True)

    def test_hums_for(self):
        outside = Span([ratios(1, 2, 3, 4), ratios(0, 0, 0, 1)])
        between = Span([ratios(1, 1, 1, 1), ratios(0, 1, 2, 3)])
        self.assertEqual(hums_for(self.plan, outside, between), outside.hums + (
            ratios(1, 1, -1, -1), ratios(0, 1, -2, -3), ratios(1, -1, 1, -1), ratios(0, -1, 2, -3)))
        self.assertEqual(hums_for(self.plan, None, None), ())
        self.assertEqual(hums_for(self.plan, outside, None), outside.hums)
        self.assertEqual(hums_for(self.plan, None, self.level), (ratios(1, 1, -1, -1), ratios(1, -1, 1, -1)))
        told = hums_for(Plan(self.line, [TURNS] * 7), degree_span(self.line, 6), degree_span(self.line, 6))
        self.assertEqual(len(told), 48)
        self.assertEqual({type(hum) for hum in told} | {type(told)}, {tuple})

    def test_small_plans(self):
        source = seeded(51)
        kinds, fulls = [], []
        for _ in range(400):
            plan, outside, between = random_case(source)
            right = right_further(plan, outside, between)
            self.assertEqual(list(all_further(plan, outside, between)), right)
            self.assertEqual(count_further(plan, outside, between), len(right))
            told = further_word(plan, outside, between)
            if right:
                self.assertEqual(told, right[0])
            else:
                self.assertIs(type(told), Layers)
                self.assertIsNone(layers_fault(plan.line, hums_for(plan, outside, between), told))
            full = is_full(plan, outside, between)
            self.assertIs(full, set(right) <= set(plan.words))
            for word in right[:3]:
                self.assertIs(plan_hushed(plan.with_word(word), outside, between),
                              plan_hushed(plan, outside, between))
            kinds.append(type(told))
            fulls.append((full, bool(right)))
        self.assertGreater(kinds.count(tuple), 50)
        self.assertGreater(kinds.count(Layers), 100)
        for kind in ((True, True), (True, False), (False, True)):
            self.assertGreater(fulls.count(kind), 5, kind)

    def test_words_equal_to_those_of_the_plan(self):
        empty = Span([ratios(0, 0, 0, 0)])
        self.assertEqual(count_further(self.plan, self.level, None), 3)
        self.assertEqual(list(all_further(self.plan, self.level, empty)), [HALVES, TURNS, ENDS])
        self.assertIs(is_full(self.plan, self.level, None), False)
        self.assertIs(is_full(Plan(self.line, [ENDS, HALVES, TURNS, HALVES]), self.level, empty), True)

    def test_long_lines(self):
        line = Line.even(24)
        level = degree_span(line, 1)
        plan = Plan(line, [(1,) * 12 + (-1,) * 12])
        self.assertEqual(further_word(plan, level, level), ((1,) * 6 + (-1,) * 6) * 2)
        self.assertEqual(count_further(plan, level, level), comb(12, 6) ** 2 // 2)
        self.assertEqual(list(itertools.islice(all_further(plan, level, level), 1)),
                         [((1,) * 6 + (-1,) * 6) * 2])
        self.assertEqual(count_further(plan, None, None), 2 ** 23)

    def test_refuses(self):
        other = Span([ratios(1)])
        for call in (hums_for, further_word, all_further, count_further, is_full):
            self.refuses(OtherLine(), call, self.plan, other, None)
            self.refuses(OtherLine(), call, self.plan, None, other)
            self.refuses(OtherLine(), call, self.plan, other, self.level)
        long = Line.even(14)
        doubling = Span([ratios(*[2 ** section for section in range(14)])])
        plan = Plan(long, [(1, -1) * 7])
        for call in (further_word, all_further, count_further, is_full):
            self.refuses(TooMany(4096), call, plan, doubling, None)
            self.refuses(TooMany(4096), call, plan, None, doubling)
            self.refuses(OtherLine(), call, plan, doubling, other)


if __name__ == "__main__":
    unittest.main()
