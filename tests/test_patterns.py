"""Points 7.1, 7.2 and 7.8: patterns, repeated without end, and steady ones."""

import unittest
from fractions import Fraction
from math import gcd
from types import GeneratorType

from hushedwires.errors import BadBound, BadExtent, BadPattern, BadPeriod, BadRepeats, NoSection, TooMany
from hushedwires.patterns import (
    Pattern, count_steady, least_pattern, product_pattern, repeat_pattern, steady_patterns, unlike_at)
from tests.reckon import (
    WRONG_RATIOS, WRONG_WHOLES, Case, all_words, fraction, no_rows, random_word, ratio, seeded)

TURN, ENDS = (1, -1), (1, -1, -1, 1)


def long_word(pattern, extent):
    return (pattern.signs * (extent // len(pattern.signs) + 1))[:extent]


def small_patterns(most):
    return [Pattern(word) for count in range(1, most + 1) for word in all_words(count)]


class PatternTest(Case):
    def test_kept(self):
        told = [1, -1, -1]
        pattern = Pattern(told)
        told[1] = 1
        self.assertEqual((pattern.signs, pattern.period, pattern.total, len(pattern)), ((1, -1, -1), 3, -1, 3))
        self.assertIs(type(pattern.signs), tuple)
        self.assertEqual(vars(Pattern((1,) * 24)), {"signs": (1,) * 24, "period": 24, "total": 24})

    def test_equal(self):
        self.assertEqual(Pattern(TURN), Pattern([1, -1]))
        self.assertNotEqual(Pattern(TURN), Pattern((1, -1, 1, -1)))
        self.assertFalse(Pattern(TURN) == TURN)

    def test_refuses(self):
        for thing in no_rows() + [[], (), (1,) * 25, (None,) * 25]:
            self.refuses(BadPattern(0, "many"), Pattern, thing)
        for thing in WRONG_WHOLES + [0, 2, -2]:
            self.refuses(BadPattern(1, "sign"), Pattern, [-1, thing, None])
            self.refuses(BadPattern(0, "sign"), Pattern, [thing])
        self.refuses(BadPattern(0, "first"), Pattern, (-1, 1))

    def test_sign_at(self):
        source = seeded(71)
        for _ in range(50):
            pattern = Pattern(random_word(source, source.randint(1, 24)))
            self.assertEqual([pattern.sign_at(section) for section in range(60)], list(long_word(pattern, 60)))
        pattern = Pattern((1, 1, -1))
        self.assertEqual(pattern.sign_at(10 ** 30), 1)
        self.assertEqual(pattern.sign_at(10 ** 30 - 2), -1)
        for thing in WRONG_WHOLES + [-1, 10 ** 30 + 1]:
            self.refuses(NoSection(thing), pattern.sign_at, thing)

    def test_word_at(self):
        for pattern in small_patterns(5):
            for extent in range(1, 25):
                self.assertEqual(pattern.word_at(extent), long_word(pattern, extent))
        for thing in WRONG_WHOLES + [0, 25, -1]:
            self.refuses(BadExtent(), Pattern(TURN).word_at, thing)


class ChangedTest(Case):
    def test_repeated(self):
        self.assertEqual(repeat_pattern(Pattern((1, -1, -1)), 2), Pattern((1, -1, -1, 1, -1, -1)))
        self.assertEqual(repeat_pattern(Pattern((1, -1)), 12), Pattern((1, -1) * 12))
        self.assertEqual(repeat_pattern(Pattern((1,) * 24), 1), Pattern((1,) * 24))
        for thing in WRONG_WHOLES + [0, -1]:
            self.refuses(BadRepeats(), repeat_pattern, Pattern((1,) * 24), thing)
        for repeats in (13, 10 ** 40):
            self.refuses(TooMany(24), repeat_pattern, Pattern(TURN), repeats)

    def test_products(self):
        source = seeded(72)
        lengths = []
        for _ in range(300):
            one, other = [Pattern(random_word(source, source.randint(1, 12))) for _ in range(2)]
            period = one.period * other.period // gcd(one.period, other.period)
            if period > 24:
                self.refuses(TooMany(24), product_pattern, one, other)
                continue
            told = product_pattern(one, other)
            self.assertIs(type(told), Pattern)
            self.assertEqual(told.period, period)
            self.assertEqual(long_word(told, 60), tuple(
                a * b for a, b in zip(long_word(one, 60), long_word(other, 60))))
            lengths.append(period)
        self.assertIn(24, lengths)
        self.assertEqual(product_pattern(Pattern((1, -1, -1, 1)), Pattern(TURN * 3)).period, 12)

    def test_least(self):
        for pattern in small_patterns(8):
            least = least_pattern(pattern)
            right = next(Pattern(pattern.signs[:many]) for many in range(1, 9)
                         if long_word(Pattern(pattern.signs[:many]), 24) == long_word(pattern, 24))
            self.assertEqual(least, right)
            for repeats in (2, 3):
                self.assertEqual(least_pattern(repeat_pattern(pattern, repeats)), least)
        self.assertEqual(least_pattern(Pattern((1, -1, 1, -1, 1, -1))), Pattern(TURN))
        self.assertEqual(least_pattern(Pattern((1, -1, 1, -1, 1))).period, 5)
        self.assertEqual(least_pattern(Pattern((1,) * 24)), Pattern((1,)))

    def test_unlike(self):
        patterns = small_patterns(6)
        for one in patterns:
            for other in patterns:
                told = unlike_at(one, other)
                right = next((section for section, (a, b) in enumerate(zip(
                    long_word(one, 60), long_word(other, 60))) if a != b), None)
                self.assertEqual(told, right)
                self.assertEqual(told is None, least_pattern(one) == least_pattern(other))
                if told is not None:
                    self.assertLess(told, one.period + other.period - gcd(one.period, other.period))
        # unlike as late as can be
        self.assertEqual(unlike_at(Pattern((1, 1, -1)), Pattern((1, 1, -1, 1, 1))), 5)
        self.assertEqual(unlike_at(Pattern((1,)), Pattern((1,) * 23 + (-1,))), 23)


class SteadyTest(Case):
    def right(self, period, bound):
        found = []
        for word in all_words(period):
            sums = [sum(long_word(Pattern(word), extent)) for extent in range(1, 3 * period + 1)]
            if max(map(abs, sums)) <= bound and sum(word) == 0:
                found.append(Pattern(word))
        return found

    def test_small_periods(self):
        self.assertIsInstance(steady_patterns(4, ratio(1)), GeneratorType)
        for period in range(1, 9):
            for bound in (0, Fraction(1, 2), 1, Fraction(3, 2), 2, 3, Fraction(7, 2), 4, 10 ** 30):
                right = self.right(period, bound)
                self.assertEqual(list(steady_patterns(period, ratio(bound))), right)
                self.assertEqual(count_steady(period, ratio(bound)), len(right))

    def test_steady_at_all_extents(self):
        # a total that is not 0 goes beyond any bound, later if not in the first periods
        self.assertEqual(count_steady(3, ratio(10 ** 20)), 0)
        self.assertEqual(list(steady_patterns(4, ratio(1))), [Pattern((1, -1, 1, -1)), Pattern((1, -1, -1, 1))])
        self.assertEqual(list(steady_patterns(2, ratio(99, 100))), [])

    def test_long_periods(self):
        self.assertEqual(len(list(steady_patterns(12, ratio(100)))), 462)
        self.assertEqual(count_steady(12, ratio(100)), 462)
        self.assertEqual(count_steady(24, ratio(12)), 1352078)
        self.assertEqual(count_steady(24, ratio(11)), 1352077)
        self.assertEqual(count_steady(24, ratio(1)), 2 ** 11)
        self.assertEqual(count_steady(23, ratio(9)), 0)
        self.assertEqual(count_steady(24, (10 ** 299 + 1, 10 ** 299)), 2 ** 11)
        self.assertEqual(len(list(steady_patterns(12, ratio(2)))), count_steady(12, ratio(2)))
        for one in steady_patterns(12, ratio(2)):
            self.assertLessEqual(max(abs(fraction(ratio(sum(one.signs[:many])))) for many in range(13)), 2)

    def test_refuses(self):
        for thing in WRONG_WHOLES + [0, 13, -1]:
            self.refuses(BadPeriod(), steady_patterns, thing, None)
        for thing in WRONG_WHOLES + [0, 25, -1]:
            self.refuses(BadPeriod(), count_steady, thing, None)
        for thing in WRONG_RATIOS + [ratio(-1), ratio(-1, 2)]:
            self.refuses(BadBound(), steady_patterns, 12, thing)
            self.refuses(BadBound(), count_steady, 24, thing)


if __name__ == "__main__":
    unittest.main()
