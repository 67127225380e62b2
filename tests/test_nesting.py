"""Points 6.3 and 6.4: nested words, lines, hums, spans and plans."""

import unittest
from fractions import Fraction
from math import comb

from hushedwires.errors import BadHum, BadPlan, BadSize, BadSpan, BadWord, TooMany
from hushedwires.lines import Line
from hushedwires.nesting import nest_hums, nest_lines, nest_plans, nest_spans, nest_words, weakest_order
from hushedwires.planlists import most_pairs
from hushedwires.plans import Plan, plan_hushed
from hushedwires.spans import Span, degree_span, is_hushed
from tests.reckon import (
    WRONG_RATIOS, Case, fraction, fractions, line_from, no_rows, noise, order, random_line, random_ratio, random_word,
    ratio, ratios, seeded)
from tests.test_doubling import bad_words, order_and_noise

HALVES, TURNS, ENDS = (1, 1, -1, -1), (1, -1, 1, -1), (1, -1, -1, 1)


def width(line):
    return fraction(line.marks[-1]) - fraction(line.marks[0])


def least_gap(line):
    marks = fractions(line.marks)
    return min([after - before for before, after in zip(marks, marks[1:])], default=Fraction(1))


def random_case(source):
    """An outer and an inner line with words, and a size that leaves room."""
    lines = []
    for _ in range(2):
        count = source.choice((1, 2, 3, 4, 4))
        lines.append(source.choice((Line.even(count), random_line(source, count))))
    size = ratio(width(lines[1]) / least_gap(lines[0]) + fraction(random_ratio(source, 1)))
    return lines, [random_word(source, len(line)) for line in lines], size


class WordsTest(Case):
    def test_small(self):
        self.assertEqual(nest_words([1, -1], [1, 1, -1]), (1, 1, -1, -1, -1, 1))
        self.assertEqual(nest_words((1, -1, -1, 1), (1,)), ENDS)
        self.assertEqual(nest_words((1,), ENDS), ENDS)
        self.assertEqual(len(nest_words((1,) * 4, (1,) * 6)), 24)

    def test_refuses(self):
        bad_words(self, nest_words, (1,))
        bad_words(self, lambda word: nest_words((1, -1), word))
        self.refuses(BadWord(0, "first"), nest_words, (-1,), None)
        self.refuses(TooMany(24), nest_words, (1,) * 5, (1,) * 5)
        self.refuses(TooMany(24), nest_words, (1,) * 2, (1,) * 13)


class LinesTest(Case):
    def test_small(self):
        outer, inner = line_from([1, 2], [-1, 1]), line_from([3, 4, 5], [0, 1, 3])
        self.assertEqual(nest_lines(outer, inner, ratio(2)),
                         line_from([3, 4, 5, 6, 8, 10], [-2, -1, 1, 2, 3, 5]))
        self.assertEqual(nest_lines(Line.even(4), Line.even(6), ratio(6)), Line.even(24))
        self.assertEqual(nest_lines(line_from([2], [5]), inner, ratio(1, 9)).marks,
                         ratios(Fraction(5, 9), Fraction(14, 9), Fraction(32, 9)))

    def test_noises_and_orders(self):
        source = seeded(63)
        for _ in range(200):
            (outer, inner), (one, other), size = random_case(source)
            line, word = nest_lines(outer, inner, size), nest_words(one, other)
            marks = [fraction(size) * mark + there for mark in fractions(outer.marks) for there in fractions(inner.marks)]
            self.assertEqual(fractions(line.marks), marks)
            self.assertEqual(fractions(line.lengths), [
                length * there for length in fractions(outer.lengths) for there in fractions(inner.lengths)])
            hums = [[random_ratio(source) for _ in part.lengths] for part in (outer, inner)]
            nested = nest_hums(*hums)
            self.assertEqual(fractions(nested), [a * b for a in fractions(hums[0]) for b in fractions(hums[1])])
            self.assertEqual(noise(line, word, nested), noise(outer, one, hums[0]) * noise(inner, other, hums[1]))
            (a, first), (b, second) = order_and_noise(outer, one), order_and_noise(inner, other)
            self.assertEqual(order_and_noise(line, word), (
                a + b, comb(a + b, a) * fraction(size) ** a * first * second))

    def test_refuses(self):
        outer, inner = line_from([1, 1, 1], [0, 2, 3]), line_from([1, 1], [0, 3])
        for thing in WRONG_RATIOS + [ratio(0), ratio(-4), ratio(3), ratio(2), ratio(-100)]:
            self.refuses(BadSize(), nest_lines, outer, inner, thing)
        self.assertEqual(len(nest_lines(outer, inner, ratio(301, 100))), 6)
        for thing in WRONG_RATIOS + [ratio(0), ratio(-1)]:
            self.refuses(BadSize(), nest_lines, line_from([1]), inner, thing)
            self.refuses(BadSize(), nest_lines, outer, line_from([1]), thing)
        self.assertEqual(len(nest_lines(outer, line_from([1]), ratio(1, 99))), 3)
        self.refuses(TooMany(24), nest_lines, Line.even(5), Line.even(5), ratio(5))
        self.refuses(BadSize(), nest_lines, Line.even(5), Line.even(5), ratio(4))


class HumsTest(Case):
    def test_refuses(self):
        right = ratios(1, 2)
        for thing in no_rows() + [(), [], ratios(*([1] * 25))]:
            self.refuses(BadHum(0), nest_hums, thing, None)
            self.refuses(BadHum(0), nest_hums, right, thing)
        for thing in WRONG_RATIOS:
            self.refuses(BadHum(1), nest_hums, [(1, 1), thing, thing], None)
            self.refuses(BadHum(2), nest_hums, right, [(1, 1), (0, 1), thing, thing])
        self.refuses(TooMany(24), nest_hums, ratios(*([1] * 5)), ratios(*([1] * 5)))
        self.assertEqual(len(nest_hums(ratios(*([1] * 24)), ratios(1))), 24)


class SpansTest(Case):
    def test_small(self):
        outer, inner = Span([ratios(1, 2), ratios(0, 1)]), Span([ratios(1, 3), ratios(1, 0), ratios(1, 1)])
        self.assertEqual(nest_spans(outer, inner), Span([
            ratios(1, 3, 2, 6), ratios(1, 0, 2, 0), ratios(1, 1, 2, 2),
            ratios(0, 0, 1, 3), ratios(0, 0, 1, 0), ratios(0, 0, 1, 1)]))
        self.assertIs(type(nest_spans(outer, inner)), Span)

    def test_hushed(self):
        source = seeded(64)
        told = []
        for _ in range(300):
            (outer, inner), (one, other), size = random_case(source)
            spans = [Span([[ratio(source.randint(-1, 1)) for _ in line.lengths] for _ in range(2)])
                     for line in (outer, inner)]
            line, word = nest_lines(outer, inner, size), nest_words(one, other)
            right = is_hushed(outer, one, spans[0]) or is_hushed(inner, other, spans[1])
            self.assertIs(is_hushed(line, word, nest_spans(*spans)), right)
            told.append(right)
        self.assertGreater(told.count(True), 20)
        self.assertGreater(told.count(False), 50)

    def test_refuses(self):
        def span(sections, many):
            return Span([ratios(*([1] * sections))] * many)
        self.refuses(TooMany(24), nest_spans, span(5, 6), span(5, 6))
        self.refuses(BadSpan(0, "many"), nest_spans, span(4, 2), span(6, 4))
        self.refuses(BadSpan(0, "many"), nest_spans, span(1, 6), span(1, 2))
        self.assertEqual(len(nest_spans(span(4, 6), span(6, 1))), 6)
        self.assertEqual(len(nest_spans(span(1, 2), span(24, 3))), 6)


class PlansTest(Case):
    def test_small(self):
        outer, inner = Plan(Line.even(2), [(1, -1)]), Plan(Line.even(4), [HALVES, TURNS])
        told = nest_plans(outer, inner, ratio(4))
        self.assertEqual(told.line, Line.even(8))
        self.assertEqual(told.words, (
            (1,) * 4 + (-1,) * 4, HALVES * 2, TURNS * 2, HALVES + (-1, -1, 1, 1), TURNS + (-1, 1, -1, 1)))
        two = nest_plans(Plan(Line.even(2), [(1, -1), (1, 1)]), Plan(Line.even(2), [(1, -1)]), ratio(3))
        self.assertEqual(two.words, ((1, 1, -1, -1), (1, 1, 1, 1), (1, -1, 1, -1), (1, -1, -1, 1), (1, -1, 1, -1)))
        self.assertEqual(two.line.marks, ratios(0, 1, 3, 4))

    def test_most_pairs(self):
        pair = Plan(Line.even(2), [(1, -1)])
        level = degree_span(Line.even(4), 1)
        four = most_pairs(Line.even(4), level, level)
        told = nest_plans(pair, four, ratio(4))
        self.assertEqual(len(told), 7)
        level = degree_span(Line.even(8), 1)
        self.assertTrue(plan_hushed(told, level, level))
        self.assertEqual(nest_plans(pair, pair, ratio(2)).words, (HALVES, TURNS, ENDS))

    def test_weakest_orders(self):
        source = seeded(65)
        told = []
        for _ in range(150):
            (outer, inner), _, size = random_case(source)
            many = source.choice(((1, 1), (1, 2), (2, 1), (1, 3)))
            plans = [Plan(line, [random_word(source, len(line)) for _ in range(pairs)])
                     for line, pairs in zip((outer, inner), many)]
            if source.random() < 0.5:
                plans = [Plan(Line.even(4), source.sample([HALVES, TURNS, ENDS], pairs)) for pairs in many]
                size = ratio(4)
            weakest = [weakest_order(plan) for plan in plans]
            nested = weakest_order(nest_plans(*plans, size))
            self.assertEqual(nested[0], min(weakest[0][0], weakest[1][0]))
            told.append(nested[0])
        self.assertGreater(sum(order > 0 for order in told), 20)

    def test_weakest_order(self):
        line = Line.even(4)
        self.assertEqual(weakest_order(Plan(line, [ENDS])), (2, 0, None))
        self.assertEqual(weakest_order(Plan(line, [ENDS, HALVES, TURNS])), (1, 1, None))
        self.assertEqual(weakest_order(Plan(line, [ENDS, HALVES])), (1, 1, None))
        self.assertEqual(weakest_order(Plan(line, [HALVES, TURNS, HALVES])), (0, 0, 2))
        self.assertEqual(weakest_order(Plan(line, [HALVES, TURNS, TURNS, HALVES])), (0, 0, 3))
        self.assertEqual(weakest_order(Plan(line, [ENDS, (1, 1, 1, -1), ENDS])), (0, 1, None))
        source = seeded(66)
        for _ in range(150):
            line = source.choice((Line.even(4), Line.even(8), random_line(source, 4)))
            plan = Plan(line, [random_word(source, len(line)) for _ in range(source.randint(1, 5))])
            found = [(order(line, word), pair, None) for pair, word in enumerate(plan.words)]
            for pair, word in enumerate(plan.words):
                found += [(order(line, tuple(a * b for a, b in zip(word, plan.words[other]))), pair, other)
                          for other in range(pair + 1, len(plan))]
            self.assertEqual(weakest_order(plan), min(found, key=lambda one: one[0]))

    def test_refuses(self):
        one, other = Plan(Line.even(5), [(1,) * 5] * 2), Plan(Line.even(5), [(1,) * 5] * 2)
        self.refuses(BadSize(), nest_plans, one, other, ratio(4))
        self.refuses(BadSize(), nest_plans, one, other, 5)
        self.refuses(TooMany(24), nest_plans, one, other, ratio(5))
        pair = Plan(Line.even(2), [(1, -1)])
        self.refuses(BadPlan(0, "many"), nest_plans, Plan(Line.even(2), [(1, -1)] * 2), Plan(Line.even(2), [(1, -1)] * 2),
                     ratio(2))
        self.refuses(BadPlan(0, "many"), nest_plans, pair, Plan(Line.even(2), [(1, -1)] * 4), ratio(2))
        self.assertEqual(len(nest_plans(pair, Plan(Line.even(2), [(1, -1)] * 3), ratio(2))), 7)


if __name__ == "__main__":
    unittest.main()
