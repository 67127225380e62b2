"""Points 2.1 and 2.2: noises and hums."""

import unittest
from fractions import Fraction
from math import comb

from hushedwires.errors import BadCount, BadHum, BadPolynomial, BadPower, BadStretch, BadWord
from hushedwires.hums import binomial_hum, level_hum, mark_hum, noise_of, polynomial_hum, stretch_hum
from hushedwires.lines import Line
from tests.reckon import (
    WRONG_RATIOS, WRONG_WHOLES, Case, fraction, fractions, line_from, no_rows, noise, random_line, random_ratio,
    random_word, ratio, ratios, seeded)


class NoiseTest(Case):
    def test_noise(self):
        line = line_from([1, 2, Fraction(1, 2)])
        self.assertEqual(noise_of(line, [1, -1, 1], ratios(3, 5, 7)), (-7, 2))
        self.assertEqual(noise_of(line, (1, 1, -1), list(ratios(3, 5, 26))), (0, 1))
        source = seeded(21)
        for _ in range(100):
            line = random_line(source, source.randint(1, 24))
            word = random_word(source, len(line))
            hum = tuple(random_ratio(source) for _ in word)
            made = noise_of(line, word, hum)
            self.assertRatio(made)
            self.assertEqual(fraction(made), noise(line, word, hum))

    def test_refuses(self):
        line = Line.even(2)
        self.refuses(BadWord(0, "many"), noise_of, line, (1,), None)
        self.refuses(BadWord(1, "sign"), noise_of, line, (1, 0), None)
        self.refuses(BadWord(0, "first"), noise_of, line, (-1, 1), None)
        for thing in no_rows() + [ratios(1), ratios(1, 2, 3)]:
            self.refuses(BadHum(0), noise_of, line, (1, 1), thing)
        for thing in WRONG_RATIOS:
            self.refuses(BadHum(1), noise_of, line, (1, 1), [(1, 1), thing])


class HumsTest(Case):
    def test_level_hum(self):
        for count in (1, 5, 24):
            self.assertEqual(level_hum(Line.even(count)), ratios(*[1] * count))

    def test_mark_hum(self):
        line = line_from([1, 1, 1], [-2, 0, Fraction(3, 2)])
        self.assertEqual(mark_hum(line, 0), ratios(1, 1, 1))
        self.assertEqual(mark_hum(line, 1), line.marks)
        for power in range(24):
            self.assertEqual(mark_hum(line, power), ratios(*[mark ** power for mark in fractions(line.marks)]))
        for thing in WRONG_WHOLES + [-1, 24]:
            self.refuses(BadPower(), mark_hum, line, thing)

    def test_stretch_hum(self):
        self.assertEqual(stretch_hum(4, 1, 3), ratios(0, 1, 1, 0))
        self.assertEqual(stretch_hum(1, 0, 1), ratios(1))
        self.assertEqual(stretch_hum(24, 0, 24), ratios(*[1] * 24))
        for thing in WRONG_WHOLES + [0, 25, -1]:
            self.refuses(BadCount(), stretch_hum, thing, None, None)
        for low, high in ((-1, 2), (2, 2), (3, 2), (0, 5), (4, 5), (0, 0), (4, 4)):
            self.refuses(BadStretch(), stretch_hum, 4, low, high)
        for thing in WRONG_WHOLES:
            self.refuses(BadStretch(), stretch_hum, 4, thing, 2)
            self.refuses(BadStretch(), stretch_hum, 4, 0, thing)

    def test_polynomial_hum(self):
        line = line_from([1, 1, 1], [-2, 0, Fraction(3, 2)])
        self.assertEqual(polynomial_hum(line, ratios(1, 2, 3)), ratios(9, 1, Fraction(43, 4)))
        self.assertEqual(polynomial_hum(line, list(ratios(Fraction(1, 2)))), ratios(*[Fraction(1, 2)] * 3))
        power_23 = [(0, 1)] * 23 + [(1, 1)]
        self.assertEqual(polynomial_hum(line, power_23), mark_hum(line, 23))

    def test_polynomial_hum_refuses(self):
        line = Line.even(2)
        for thing in no_rows() + [[], (), ratios(*range(25))]:
            self.refuses(BadPolynomial(), polynomial_hum, line, thing)
        for thing in WRONG_RATIOS:
            self.refuses(BadPolynomial(), polynomial_hum, line, [(1, 1), thing])

    def test_binomial_hum(self):
        for count in (1, 2, 7, 24):
            for lower in range(24):
                self.assertEqual(binomial_hum(count, lower), ratios(*[comb(k, lower) for k in range(count)]))
        for thing in WRONG_WHOLES + [0, 25]:
            self.refuses(BadCount(), binomial_hum, thing, None)
        for thing in WRONG_WHOLES + [-1, 24]:
            self.refuses(BadPower(), binomial_hum, 3, thing)
        self.assertEqual(binomial_hum(3, 1), (ratio(0), ratio(1), ratio(2)))


if __name__ == "__main__":
    unittest.main()
