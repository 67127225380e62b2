"""Points 4.8 to 4.12: lists of hushed words, their numbers, and the least crossed one."""

import itertools
import unittest
from math import comb

from hushedwires.errors import BadNumber, BadWord, NotHushed, OtherLine, TooMany
from hushedwires.lines import Line
from hushedwires.listing import count_hushed, hushed_by_number, hushed_number, hushed_words, least_crossed
from hushedwires.spans import Span, degree_span
from hushedwires.words import number_of_word, word_by_number
from tests.reckon import (
    WRONG_WHOLES, Case, all_words, crossings, long_ratio, no_rows, noise, random_line, random_ratio, random_word,
    ratio, ratios, seeded)


def random_case(source):
    count = source.randint(1, 7)
    line = source.choice((Line.even(count), random_line(source, count)))
    many = source.choice((1, 1, 2, 3))
    if source.random() < 0.1:
        return line, None
    if source.random() < 0.7:
        return line, Span([ratios(*[source.randint(-1, 1) for _ in range(count)]) for _ in range(many)])
    return line, Span([[random_ratio(source, -2, 2, 2) for _ in range(count)] for _ in range(many)])


def first_heard_hum(line, word, span):
    return next((number for number, hum in enumerate(span.hums) if noise(line, word, hum)), None)


class ListingTest(Case):
    def test_example(self):
        line = Line.even(4)
        level = degree_span(line, 1)
        words = [(1, 1, -1, -1), (1, -1, 1, -1), (1, -1, -1, 1)]
        self.assertEqual(list(hushed_words(line, level)), words)
        self.assertEqual(count_hushed(line, level), 3)
        for number, word in enumerate(words):
            self.assertEqual(hushed_number(line, level, list(word)), number)
            self.assertEqual(hushed_by_number(line, level, number), word)
        self.assertEqual(least_crossed(line, level), (1, 1, -1, -1))
        self.assertEqual(list(hushed_words(line, degree_span(line, 2))), [(1, -1, -1, 1)])
        odd = Line.even(3)
        self.assertEqual(list(hushed_words(odd, degree_span(odd, 1))), [])
        self.assertEqual(count_hushed(odd, degree_span(odd, 1)), 0)
        self.assertIsNone(least_crossed(odd, degree_span(odd, 1)))
        self.refuses(BadNumber(), hushed_by_number, odd, degree_span(odd, 1), 0)

    def test_small_lines(self):
        source = seeded(49)
        counts = []
        for _ in range(400):
            line, span = random_case(source)
            hushed = [word for word in all_words(len(line))
                      if span is None or first_heard_hum(line, word, span) is None]
            self.assertEqual(list(hushed_words(line, span)), hushed)
            self.assertEqual(count_hushed(line, span), len(hushed))
            for number, word in enumerate(hushed):
                self.assertEqual(hushed_number(line, span, word), number)
                self.assertEqual(hushed_by_number(line, span, number), word)
            self.refuses(BadNumber(), hushed_by_number, line, span, len(hushed))
            least = min(hushed, key=lambda word: (len(crossings(word)), [-sign for sign in word]), default=None)
            self.assertEqual(least_crossed(line, span), least)
            word = random_word(source, len(line))
            if word not in hushed:
                self.refuses(NotHushed(first_heard_hum(line, word, span)), hushed_number, line, span, word)
            counts.append(len(hushed))
        self.assertGreater(counts.count(0), 30)
        self.assertGreater(len(set(counts)), 10)

    def test_all_words(self):
        source = seeded(50)
        for count in (1, 2, 9, 24):
            line = Line.even(count)
            self.assertEqual(count_hushed(line, None), 2 ** (count - 1))
            self.assertEqual(least_crossed(line, None), (1,) * count)
            for _ in range(10):
                word = random_word(source, count)
                self.assertEqual(hushed_number(line, None, word), number_of_word(word))
                self.assertEqual(hushed_by_number(line, None, number_of_word(word)), word)
        self.assertEqual(list(hushed_words(Line.even(5), None)), all_words(5))
        self.assertEqual(list(hushed_words(Line.even(1), None)), [(1,)])

    def test_long_lines(self):
        source = seeded(51)
        line = Line.even(24)
        level, degree_2 = degree_span(line, 1), degree_span(line, 2)
        self.assertEqual(count_hushed(line, level), comb(24, 12) // 2)
        self.assertEqual(least_crossed(line, level), (1,) * 12 + (-1,) * 12)
        self.assertEqual(least_crossed(line, degree_2), (1,) * 6 + (-1,) * 12 + (1,) * 6)
        self.assertEqual(list(itertools.islice(hushed_words(line, level), 2)),
                         [(1,) * 12 + (-1,) * 12, (1,) * 11 + (-1, 1) + (-1,) * 11])
        for span in (level, degree_2):
            many = count_hushed(line, span)
            last = None
            for number in sorted([0, many - 1] + [source.randint(0, many - 1) for _ in range(20)]):
                word = hushed_by_number(line, span, number)
                self.assertEqual([noise(line, word, hum) for hum in span], [0] * len(span))
                self.assertEqual(hushed_number(line, span, word), number)
                self.assertTrue(last is None or number_of_word(last) <= number_of_word(word))
                last = word
        self.refuses(BadNumber(), hushed_by_number, line, level, comb(24, 12) // 2)

    def test_degree_needs_crossings(self):
        source = seeded(52)
        for _ in range(60):
            line = source.choice((Line.even(8), random_line(source, source.randint(2, 7))))
            degree = source.randint(1, 3)
            told = least_crossed(line, degree_span(line, degree))
            if told is not None:
                self.assertGreaterEqual(len(crossings(told)), degree)

    def test_long_numbers(self):
        long = long_ratio(seeded(53))
        line = Line([long] * 24, ratios(*range(24)))
        span = Span([[long] * 24, ratios(*([0] * 24))])
        self.assertEqual(count_hushed(line, span), comb(24, 12) // 2)
        self.assertEqual(hushed_by_number(line, span, 0), (1,) * 12 + (-1,) * 12)

    def test_list_is_new_each_time(self):
        told = hushed_words(Line.even(4), degree_span(Line.even(4), 1))
        self.assertEqual(next(told), (1, 1, -1, -1))
        self.assertEqual(len(list(told)), 2)
        self.assertEqual(list(told), [])


class RefusedTest(Case):
    line = Line.even(4)
    level = degree_span(Line.even(4), 1)
    doubling = Span([ratios(*[2 ** section for section in range(24)])])

    def test_other_line(self):
        other = Span([ratios(1, 1, 1)])
        for call in (hushed_words, count_hushed, least_crossed):
            self.refuses(OtherLine(), call, self.line, other)
        self.refuses(OtherLine(), hushed_number, self.line, other, None)
        self.refuses(OtherLine(), hushed_by_number, self.line, other, None)

    def test_bad_word(self):
        for span in (self.level, None):
            for thing in no_rows() + [(), (1, 1, 1), (1,) * 5]:
                self.refuses(BadWord(0, "many"), hushed_number, self.line, span, thing)
            self.refuses(BadWord(2, "sign"), hushed_number, self.line, span, [-1, 1, True, 0])
            self.refuses(BadWord(0, "first"), hushed_number, self.line, span, (-1, -1, 1, 1))

    def test_not_hushed(self):
        degree_2 = degree_span(self.line, 2)
        self.refuses(NotHushed(0), hushed_number, self.line, degree_2, (1, 1, 1, -1))
        self.refuses(NotHushed(1), hushed_number, self.line, degree_2, (1, 1, -1, -1))

    def test_too_many(self):
        long = Line.even(24)
        for call in (hushed_words, count_hushed, least_crossed):
            self.refuses(TooMany(4096), call, long, self.doubling)
        # two sections of one weight hush each other, but the layers grow all the same
        halves = Span([ratios(*([2 ** section for section in range(23)] + [2 ** 23 - 1]))])
        hushed = (1,) * 23 + (-1,)
        self.refuses(TooMany(4096), hushed_number, long, halves, hushed)
        self.refuses(NotHushed(0), hushed_number, long, halves, (1,) * 24)
        self.refuses(BadWord(0, "many"), hushed_number, long, halves, (1,))
        for number in (0, 10 ** 9, None):
            self.refuses(TooMany(4096), hushed_by_number, long, halves, number)

    def test_bad_number(self):
        for thing in WRONG_WHOLES + [-1, 3, ratio(1)]:
            self.refuses(BadNumber(), hushed_by_number, self.line, self.level, thing)
        for thing in WRONG_WHOLES + [-1, 8]:
            self.refuses(BadNumber(), hushed_by_number, self.line, None, thing)
        self.assertEqual(hushed_by_number(self.line, None, 7), word_by_number(4, 7))


if __name__ == "__main__":
    unittest.main()
