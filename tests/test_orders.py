"""Points 2.8 to 2.11 and the example of 2.14: orders, loud polynomials, one change, lengths."""

import unittest
from fractions import Fraction
from math import comb

from hushedwires.errors import BadDegree, BadLength, BadWord, OtherLine
from hushedwires.lines import Line
from hushedwires.orders import hushing_poles, length_bar, loud_fault, loud_polynomial, order_noise, order_of
from hushedwires.spans import Span, degree_span
from tests.reckon import (
    WRONG_RATIOS, WRONG_WHOLES, Case, all_words, crossings, fraction, fractions, is_loud, line_from, long_ratio,
    no_rows, noise, order, random_line, random_ratio, random_word, ratio, ratios, seeded)

THUE_16 = tuple((-1) ** bin(section).count("1") for section in range(16))


def values(line, coefficients):
    return [sum(fraction(one) * mark ** power for power, one in enumerate(coefficients))
            for mark in fractions(line.marks)]


def bad_words(case, call):
    case.refuses(BadWord(0, "many"), call, Line.even(2), (1,))
    case.refuses(BadWord(1, "sign"), call, Line.even(2), [1, True])
    case.refuses(BadWord(0, "first"), call, Line.even(2), (-1, 1))


class OrderTest(Case):
    def test_example(self):
        line = Line.even(4)
        self.assertEqual(order_of(line, (1, -1, -1, 1)), 2)
        self.assertEqual(order_noise(line, [1, -1, -1, 1]), (2, (4, 1)))
        self.assertEqual(order_of(line, (1, 1, -1, -1)), 1)
        self.assertEqual(order_of(Line.even(1), (1,)), 0)
        self.assertEqual(order_noise(line_from([3], [7]), (1,)), (0, (3, 1)))

    def test_above_six(self):
        eight = line_from([comb(7, k) for k in range(8)])
        self.assertEqual(order_of(eight, (1, -1) * 4), 7)
        many = line_from([comb(23, k) for k in range(24)])
        self.assertEqual(order_of(many, (1, -1) * 12), 23)
        self.assertEqual(order_noise(many, (1, -1) * 12)[1], ratio(noise(many, (1, -1) * 12, ratios(
            *[k ** 23 for k in range(24)]))))
        self.assertEqual(order_of(Line.even(16), THUE_16), 4)

    def test_small_lines(self):
        source = seeded(8)
        for count in range(1, 9):
            line = Line.even(count)
            for word in all_words(count):
                told = order_noise(line, word)
                self.assertIs(type(told), tuple)
                self.assertEqual(told[0], order(line, word))
                self.assertEqual(order_of(line, word), told[0])
                self.assertRatio(told[1])
                hum = [ratio(k ** told[0]) for k in range(count)]
                self.assertEqual(fraction(told[1]), noise(line, word, hum))
                self.assertNotEqual(told[1], (0, 1))
                self.assertLessEqual(told[0], len(crossings(word)))
        for _ in range(50):
            line = random_line(source, source.randint(1, 6))
            word = random_word(source, len(line))
            self.assertEqual(order_of(line, word), order(line, word))

    def test_refuses(self):
        bad_words(self, order_of)
        bad_words(self, order_noise)


class LoudTest(Case):
    def test_example(self):
        self.assertEqual(loud_polynomial(Line.even(4), [1, -1, -1, 1]), ratios(Fraction(5, 4), -3, 1))
        self.assertEqual(loud_polynomial(Line.even(3), (1, 1, 1)), ratios(1))

    def test_small_lines(self):
        source = seeded(9)
        for _ in range(60):
            line = source.choice((random_line(source, source.randint(1, 7)), Line.even(source.randint(1, 8))))
            for word in all_words(len(line))[:40]:
                told = loud_polynomial(line, word)
                r = len(crossings(word))
                self.assertRatios(told, r + 1)
                self.assertEqual(told[-1], (1, 1))
                marks = fractions(line.marks)
                at = Fraction(source.randint(-20, 20), 7)
                product = 1
                for pole in crossings(word):
                    product *= at - (marks[pole - 1] + marks[pole]) / 2
                self.assertEqual(sum(fraction(one) * at ** power for power, one in enumerate(told)), product)
                hum = [ratio(one) for one in values(line, told)]
                self.assertTrue(is_loud(word, hum))
                heard = noise(line, word, hum)
                self.assertEqual(heard > 0, r % 2 == 0)
                if order(line, word) == r:
                    self.assertEqual(order_noise(line, word)[1], ratio(heard))
                self.assertIsNone(loud_fault(line, word, told))

    def test_longest(self):
        source = seeded(10)
        line = Line.even(24)
        self.assertEqual(len(loud_polynomial(line, (1, -1) * 12)), 24)
        self.assertIsNone(loud_fault(line, (1, -1) * 12, loud_polynomial(line, (1, -1) * 12)))
        marks = sorted(fraction(long_ratio(source, 40)) for _ in range(24))
        line, word = line_from([1] * 24, marks), random_word(source, 24)
        self.assertIsNone(loud_fault(line, word, loud_polynomial(line, word)))

    def test_fault_many(self):
        line, word = Line.even(4), (1, -1, -1, 1)
        for thing in no_rows() + [[], (), ratios(0, 0, 0, 0), ratios(1, 1, 1, 1)]:
            self.assertEqual(loud_fault(line, word, thing), "many")
        for thing in WRONG_RATIOS:
            self.assertEqual(loud_fault(line, word, [(1, 1), thing]), "many")
        self.assertEqual(loud_fault(line, (1, 1, 1, 1), ratios(1, 0)), "many")

    def test_fault_loud(self):
        line, word = Line.even(4), (1, -1, -1, 1)
        self.assertEqual(loud_fault(line, word, ratios(0)), "loud")
        self.assertEqual(loud_fault(line, word, ratios(1)), "loud")
        self.assertEqual(loud_fault(line, word, ratios(0, 1)), "loud")
        self.assertEqual(loud_fault(line, word, ratios(0, 0, 0)), "loud")
        self.assertIsNone(loud_fault(line, word, list(ratios(-2, 3, -1))))
        self.assertIsNone(loud_fault(line, word, ratios(2, -3, 1)))
        self.assertIsNone(loud_fault(line, (1, 1, 1, 1), ratios(-1)))

    def test_fault_is_the_words_of_the_point(self):
        source = seeded(11)
        seen = set()
        for _ in range(600):
            line = random_line(source, source.randint(1, 5))
            word = random_word(source, len(line))
            told = [ratio(source.randint(-2, 2)) for _ in range(source.randint(1, len(crossings(word)) + 1))]
            right = is_loud(word, [ratio(one) for one in values(line, told)])
            self.assertEqual(loud_fault(line, word, told), None if right else "loud")
            seen.add(right)
        self.assertEqual(len(seen), 2)

    def test_refuses(self):
        bad_words(self, loud_polynomial)
        bad_words(self, lambda line, word: loud_fault(line, word, None))


class OneChangeTest(Case):
    def test_example(self):
        line = Line.even(4)
        self.assertEqual(hushing_poles(line, (1, 1, 1, 1), degree_span(line, 1)), (2,))
        self.assertEqual(hushing_poles(line, (1, -1, 1, 1), degree_span(line, 1)), (1, 3))

    def test_small_lines(self):
        source = seeded(12)
        found = 0
        for _ in range(60):
            count = source.randint(1, 6)
            line = source.choice((Line.even(count), random_line(source, count)))
            span = Span([[ratio(source.randint(-1, 1)) for _ in range(count)] for _ in range(source.randint(1, 2))])
            for word in all_words(count):
                told = []
                for pole in range(1, count):
                    changed = word[:pole] + tuple(-sign for sign in word[pole:])
                    if all(noise(line, changed, hum) == 0 for hum in span.hums):
                        told.append(pole)
                self.assertEqual(hushing_poles(line, list(word), span), tuple(told))
                found += len(told)
        self.assertGreater(found, 50)

    def test_refuses(self):
        other = Span([ratios(1, 1, 1)])
        bad_words(self, lambda line, word: hushing_poles(line, word, other))
        self.refuses(OtherLine(), hushing_poles, Line.even(2), (1, 1), other)
        self.refuses(OtherLine(), hushing_poles, Line.even(1), (1,), other)


class LengthBarTest(Case):
    def test_example(self):
        self.assertEqual(length_bar(6, 2), 1)
        self.assertEqual(length_bar(1, 1), 0)
        self.assertEqual(length_bar(1, 10 ** 30), 0)
        self.assertIsNone(length_bar(1, 0))

    def test_small_lengths(self):
        for length in range(1, 140):
            for degree in range(0, 70):
                odd = [j for j in range(degree) if comb(length, j + 1) % 2]
                self.assertEqual(length_bar(length, degree), odd[0] if odd else None)
                power = 1
                while power <= degree:
                    power *= 2
                self.assertEqual(length_bar(length, degree) is None, length % power == 0)

    def test_bars_words(self):
        for length in range(1, 11):
            orders = [order(Line.even(length), word) for word in all_words(length)]
            for degree in range(0, 7):
                if length_bar(length, degree) is not None:
                    self.assertLess(max(orders), degree)

    def test_large_numbers(self):
        self.assertEqual(length_bar(2 ** 99, 10 ** 30), 2 ** 99 - 1)
        self.assertIsNone(length_bar(2 ** 99, 2 ** 99 - 1))
        self.assertEqual(length_bar(2 ** 99, 2 ** 99), 2 ** 99 - 1)
        self.assertIsNone(length_bar(10 ** 30, 2 ** 30 - 1))
        self.assertEqual(length_bar(10 ** 30, 2 ** 30), 2 ** 30 - 1)
        self.assertEqual(length_bar(10 ** 30, 10 ** 30), 2 ** 30 - 1)
        self.assertEqual(length_bar(10 ** 30 - 1, 1), 0)

    def test_refuses(self):
        for thing in WRONG_WHOLES + [0, -1, 10 ** 30 + 1]:
            self.refuses(BadLength(thing), length_bar, thing, 1)
            self.refuses(BadLength(thing), length_bar, thing, None)
        for thing in WRONG_WHOLES + [-1, 10 ** 30 + 1]:
            self.refuses(BadDegree(thing), length_bar, 1, thing)


class RandomRatioTest(Case):
    def test_reckoning(self):
        self.assertRatio(random_ratio(seeded(1)))


if __name__ == "__main__":
    unittest.main()
