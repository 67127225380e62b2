"""Points 6.1 and 6.2: doubled and joined words and lines, orders on even lines by sums of sums."""

import unittest
from math import comb

from hushedwires.doubling import binomial_noises, double_line, double_word, join_words, sum_rows
from hushedwires.errors import BadCount, BadStep, BadWord, TooMany
from hushedwires.lines import Line
from tests.reckon import (
    WRONG_RATIOS, WRONG_WHOLES, Case, all_words, fraction, fractions, line_from, long_ratio, no_rows, noise, order,
    random_line, random_ratio, random_word, ratio, ratios, seeded)


def bad_words(case, call, *more):
    for thing in no_rows() + [(), (1,) * 25]:
        case.refuses(BadWord(0, "many"), call, thing, *more)
    case.refuses(BadWord(1, "sign"), call, [-1, True, 0], *more)
    case.refuses(BadWord(0, "first"), call, (-1, 1), *more)


def order_and_noise(line, word):
    """The order of a word and its noise under mark ** order."""
    power = order(line, word)
    return power, noise(line, word, [ratio(mark ** power) for mark in fractions(line.marks)])


class DoubleTest(Case):
    def test_words(self):
        self.assertEqual(double_word([1]), (1, -1))
        self.assertEqual(double_word((1, -1, -1)), (1, -1, -1, -1, 1, 1))
        self.assertEqual(double_word((1,) * 12), (1,) * 12 + (-1,) * 12)
        self.refuses(TooMany(24), double_word, (1,) * 13)
        bad_words(self, double_word)

    def test_lines(self):
        line = line_from([1, 2, 3], [-1, 0, 4])
        self.assertEqual(double_line(line, ratio(11, 2)),
                         Line(ratios(1, 2, 3, 1, 2, 3), ratios(-1, 0, 4) + ratios("9/2", "11/2", "19/2")))
        self.assertEqual(double_line(line_from([3], [7]), ratio(1, 9)), line_from([3, 3], [7, fraction((64, 9))]))
        self.assertEqual(double_line(Line.even(12), ratio(12)), Line.even(24))

    def test_orders(self):
        source = seeded(61)
        for _ in range(150):
            line = source.choice((Line.even(source.randint(1, 8)), random_line(source, source.randint(1, 6))))
            word = random_word(source, len(line))
            width = fraction(line.marks[-1]) - fraction(line.marks[0])
            step = ratio(width + fraction(random_ratio(source, 1)))
            self.assertEqual(order(double_line(line, step), double_word(word)), order(line, word) + 1)

    def test_refuses(self):
        line = line_from([1, 1], [-1, 2])
        for thing in WRONG_RATIOS + [ratio(3), ratio(2), ratio(0), ratio(-4)]:
            self.refuses(BadStep(), double_line, line, thing)
        self.assertEqual(len(double_line(line, ratio(301, 100))), 4)
        self.refuses(BadStep(), double_line, line_from([1]), ratio(0))
        self.refuses(TooMany(24), double_line, Line.even(13), ratio(13))
        self.refuses(BadStep(), double_line, Line.even(13), ratio(12))


class JoinTest(Case):
    def test_small(self):
        self.assertEqual(join_words([1, -1], [1, 1, -1]), (1, -1, 1, 1, -1))
        self.assertEqual(join_words((1, -1), (1, 1, -1), crossed=False), (1, -1, 1, 1, -1))
        self.assertEqual(join_words((1, -1), (1, 1, -1), crossed=True), (1, -1, -1, -1, 1))
        self.assertEqual(len(join_words((1,) * 23, (1,))), 24)
        with self.assertRaises(TypeError):
            join_words((1,), (1,), True)

    def test_orders(self):
        source = seeded(62)
        kinds = []
        for _ in range(400):
            lines, words = [], []
            for _ in range(2):
                count = source.choice((1, 2, 2, 4, 4, 6))
                lines.append(source.choice((Line.even(count), random_line(source, count))))
                words.append(source.choice((random_word(source, count), ((1, -1, -1, 1) * 2)[:count])))
            crossed = source.choice((True, False))
            joined = lines[0].joined_to(lines[1], random_ratio(source, 1))
            (one, first), (other, second) = map(order_and_noise, lines, words)
            told = order(joined, join_words(*words, crossed=crossed))
            if one != other:
                self.assertEqual(told, min(one, other))
                kinds.append("unlike")
            else:
                self.assertGreaterEqual(told, one)
                self.assertEqual(told == one, first + (-second if crossed else second) != 0)
                kinds.append("more" if told > one else "same")
        for kind in ("unlike", "same", "more"):
            self.assertGreater(kinds.count(kind), 5)

    def test_refuses(self):
        bad_words(self, join_words, (1,))
        bad_words(self, lambda word: join_words((1, -1), word))
        self.refuses(BadWord(0, "first"), join_words, (-1, 1), None)
        self.refuses(TooMany(24), join_words, (1,) * 24, (1,))
        self.refuses(TooMany(24), join_words, (1,) * 12, (1,) * 13, crossed=True)


class SumRowsTest(Case):
    def test_small(self):
        self.assertEqual(sum_rows([1, -1, -1, 1]), ((1, -1, -1, 1), (1, 0, -1), (1, 1)))
        self.assertEqual(sum_rows((1, 1, -1)), ((1, 1, -1),))
        self.assertEqual(sum_rows((1,)), ((1,),))
        self.assertEqual(sum_rows((1, -1)), ((1, -1), (1,)))

    def test_small_words(self):
        for count in range(1, 11):
            for word in all_words(count):
                told = sum_rows(word)
                self.assertEqual(told[0], word)
                self.assertEqual([type(row) for row in told], [tuple] * len(told))
                for row, after in zip(told, told[1:]):
                    self.assertEqual(sum(row), 0)
                    self.assertEqual(after, tuple(sum(row[:many]) for many in range(1, len(row))))
                self.assertNotEqual(sum(told[-1]), 0)
                self.assertEqual(len(told) - 1, order(Line.even(count), word))
                noises = binomial_noises(word, len(told))
                self.assertEqual(noises[:-1], ratios(*([0] * (len(told) - 1))))
                self.assertEqual(noises[-1], ratio(sum(told[-1]) * (-1) ** (len(told) - 1)))

    def test_long_words(self):
        thue = tuple((-1) ** bin(section).count("1") for section in range(16))
        self.assertEqual(len(sum_rows(thue)), 5)
        self.assertEqual([len(row) for row in sum_rows(thue)], [16, 15, 14, 13, 12])
        self.assertEqual(binomial_noises(thue, 5)[4], ratio(sum(sum_rows(thue)[-1])))

    def test_refuses(self):
        bad_words(self, sum_rows)


class BinomialTest(Case):
    def test_all(self):
        source = seeded(63)
        for _ in range(80):
            word = random_word(source, source.randint(1, 24))
            many = source.randint(1, 24)
            told = binomial_noises(list(word), many)
            self.assertRatios(told, many)
            self.assertEqual(told, tuple(ratio(sum(sign * comb(k, j) for k, sign in enumerate(word)))
                                         for j in range(many)))
        self.assertEqual(binomial_noises((1,), 3), ratios(1, 0, 0))
        self.assertEqual(binomial_noises((1, -1, -1, 1), 4), ratios(0, 0, 2, 1))

    def test_refuses(self):
        for thing in WRONG_WHOLES + [0, 25, -1]:
            self.refuses(BadCount(), binomial_noises, (1, -1), thing)
        bad_words(self, binomial_noises, 0)

    def test_long_steps(self):
        long = long_ratio(seeded(64))
        self.assertEqual(double_line(line_from([1]), long).marks, (ratio(0), long))


if __name__ == "__main__":
    unittest.main()
