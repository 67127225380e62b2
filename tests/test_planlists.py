"""Points 5.3 and 5.4: lists of hushed plans, the most pairs, full plans."""

import itertools
import unittest
from types import GeneratorType

from hushedwires.errors import BadPairs, OtherLine, TooMany
from hushedwires.lines import Line
from hushedwires.planlists import all_plans, count_plans, full_plans, most_pairs
from hushedwires.plans import Plan, plan_hushed
from hushedwires.spans import Span, degree_span
from hushedwires.words import number_of_word
from tests.reckon import WRONG_WHOLES, Case, all_words, line_from, noise, random_line, ratios, seeded

CALLS = [(all_plans, (1,)), (count_plans, (1,)), (most_pairs, ()), (full_plans, ())]


def hushed(line, word, span):
    return span is None or not any(noise(line, word, hum) for hum in span.hums)


def right_plans(line, outside, between, most):
    """For each number of pairs all hushed ascending plans as rows of words, word by word."""
    words = [word for word in all_words(len(line)) if hushed(line, word, outside)]
    friends = {(one, other) for one, other in itertools.combinations(words, 2)
               if hushed(line, [a * b for a, b in zip(one, other)], between)}
    plans = [[()]]
    for _ in range(most):
        plans.append([plan + (word,) for plan in plans[-1] for word in words
                      if all((own, word) in friends for own in plan)])
    return plans


def right_full_plans(line, outside, between):
    plans = [set(chosen) for row in right_plans(line, outside, between, 8)[1:] for chosen in row]
    full = [chosen for chosen in plans if len(chosen) == 7
            or (len(chosen) < 7 and not any(chosen < other for other in plans))]
    ordered = [sorted(chosen, key=number_of_word) for chosen in full]
    return [tuple(chosen) for chosen in sorted(ordered, key=lambda words: [number_of_word(word) for word in words])]


def words_of(plans):
    return [plan.words for plan in plans]


def random_spans(source, line):
    spans = []
    for _ in range(2):
        low = source.choice((0, -1, 1))
        small = Span([ratios(*[source.randint(low, max(low, 1)) for _ in line.lengths])])
        spans.append(source.choice((None, small, small, degree_span(line, 1))))
    return spans


def span_of(*hums):
    return Span([ratios(*hum) for hum in hums])


class PlanListsTest(Case):
    def check(self, line, outside, between):
        """All answers for a line that has few plans, each against all choices of words."""
        least = None
        for pairs, right in enumerate(right_plans(line, outside, between, 7)):
            if pairs == 0:
                continue
            told = list(all_plans(line, outside, between, pairs))
            self.assertEqual(words_of(told), right)
            for plan in told[:5]:
                self.assertIs(type(plan), Plan)
                self.assertEqual(plan.line, line)
                self.assertTrue(plan_hushed(plan, outside, between))
            self.assertEqual(count_plans(line, outside, between, pairs), len(right))
            least = right[0] if right else least
        told = most_pairs(line, outside, between)
        self.assertEqual(told, None if least is None else Plan(line, least))
        self.assertEqual(words_of(full_plans(line, outside, between)), right_full_plans(line, outside, between))
        return 0 if told is None else len(told)

    def test_small_lines(self):
        source = seeded(53)
        most = []
        for _ in range(250):
            count = source.randint(1, 4)
            line = source.choice((Line.even(count), random_line(source, count)))
            most.append(self.check(line, *random_spans(source, line)))
        for pairs in (0, 1, 2, 3, 4, 7):
            self.assertGreater(most.count(pairs), 2, pairs)

    def test_lines_of_five_and_six(self):
        source = seeded(54)
        most = []
        for _ in range(12):
            line = Line.even(source.choice((5, 6)))
            hum = [source.choice((0, 1, 1, 2)) for _ in line.lengths]
            outside = source.choice((span_of(hum), span_of([source.randint(-1, 1) for _ in hum])))
            most.append(self.check(line, outside, span_of(hum)))
        self.assertGreater(max(most), 1)
        self.check(Line.even(6), None, span_of([1, 1, 1, 1, 0, 2], [0, 0, 0, 0, 1, 1]))
        self.check(line_from([1, 2, 1, 2, 1, 1]), None, span_of([1] * 6))

    def test_example(self):
        line = Line.even(4)
        level = degree_span(line, 1)
        three = ((1, 1, -1, -1), (1, -1, 1, -1), (1, -1, -1, 1))
        self.assertEqual(words_of(all_plans(line, level, level, 3)), [three])
        self.assertEqual(words_of(all_plans(line, level, level, 2)), list(itertools.combinations(three, 2)))
        self.assertEqual(most_pairs(line, level, level).words, three)
        self.assertEqual(words_of(full_plans(line, level, level)), [three])

    def test_eight_sections(self):
        line = Line.even(8)
        level, degree_2 = degree_span(line, 1), degree_span(line, 2)
        told = list(all_plans(line, level, level, 7))
        self.assertEqual((len(told), count_plans(line, level, level, 7)), (30, 30))
        self.assertEqual(words_of(full_plans(line, level, level)), words_of(told))
        self.assertEqual(most_pairs(line, level, level), told[0])
        self.assertEqual(told[0].words[0], (1, 1, 1, 1, -1, -1, -1, -1))
        for plan in told:
            self.assertTrue(plan_hushed(plan, level, level))
            numbers = [number_of_word(word) for word in plan.words]
            self.assertEqual(numbers, sorted(set(numbers)))
        self.assertEqual([count_plans(line, None, level, pairs) for pairs in range(1, 8)],
                         [len(row) for row in right_plans(line, None, level, 7)[1:]])
        wanted = ((1, 1, -1, -1, -1, -1, 1, 1), (1, -1, 1, -1, -1, 1, -1, 1))
        self.assertIn(wanted, words_of(all_plans(line, degree_2, degree_2, 2)))
        self.check(line, degree_2, degree_2)

    def test_more_than_seven(self):
        line = Line.even(8)
        self.assertEqual(len(most_pairs(line, None, None)), 7)
        self.assertEqual(most_pairs(line, None, None).words, tuple(all_words(8)[:7]))
        self.assertEqual(next(full_plans(line, None, None)).words, tuple(all_words(8)[:7]))
        self.assertEqual(next(all_plans(Line.even(10), None, None, 7)).words, tuple(all_words(10)[:7]))
        # eight words, each two of which are hushed between: each seven of them are a full plan
        four = Line.even(4)
        self.assertEqual(words_of(full_plans(four, None, None)), list(itertools.combinations(all_words(4), 7)))

    def test_ten_sections(self):
        line = Line.even(10)
        self.assertEqual(count_plans(line, degree_span(line, 1), degree_span(line, 1), 2), 0)
        self.assertEqual(count_plans(line, degree_span(line, 1), None, 1), 126)
        # many fours, no fives
        fours = span_of([1, 1, 1, 1, 0, 0, 0, 0, 0, 0])
        for pairs in (5, 6, 7):
            self.assertEqual(list(all_plans(line, None, fours, pairs)), [])
            self.assertEqual(count_plans(line, None, fours, pairs), 0)
        self.assertEqual(len(next(all_plans(line, None, fours, 4))), 4)
        mixed = span_of([1] * 8 + [2, 2])
        self.assertEqual(count_plans(line, None, mixed, 5), 0)

    def test_no_bar_for_layers(self):
        # an empty list, though there are more than 4096 rows on no line so short: nothing is refused
        line = Line.even(10)
        doubling = span_of([2 ** section for section in range(10)])
        self.assertEqual(list(all_plans(line, doubling, None, 1)), [])
        self.assertEqual(count_plans(line, None, doubling, 2), 0)
        eight = span_of([2 ** section for section in range(8)])
        self.assertIsNone(most_pairs(Line.even(8), eight, None))
        self.assertEqual(list(full_plans(Line.even(8), eight, None)), [])
        self.assertEqual(len(list(full_plans(Line.even(8), None, eight))), 128)

    def test_generators(self):
        line = Line.even(2)
        self.assertIsInstance(all_plans(line, None, None, 1), GeneratorType)
        self.assertIsInstance(full_plans(line, None, None), GeneratorType)


class RefusedTest(Case):
    def test_other_line(self):
        right, other = span_of([1] * 11), span_of([1] * 2)
        for call, more in CALLS:
            for spans in ((other, right), (right, other), (other, None), (None, other)):
                self.refuses(OtherLine(), call, Line.even(11), *spans, *more)

    def test_bad_pairs(self):
        for thing in WRONG_WHOLES + [0, 8, -1]:
            for call in (all_plans, count_plans):
                self.refuses(BadPairs(), call, Line.even(3), None, None, thing)
                self.refuses(BadPairs(), call, Line.even(11), None, None, thing)
                self.refuses(OtherLine(), call, Line.even(11), None, span_of([1]), thing)

    def test_too_many(self):
        for call in (all_plans, count_plans):
            self.refuses(TooMany(10), call, Line.even(11), None, None, 7)
        for call in (most_pairs, full_plans):
            self.refuses(TooMany(8), call, Line.even(9), None, None)


if __name__ == "__main__":
    unittest.main()
