"""Points 7.3 and 7.10: the forms of noises of repeated words."""

import unittest
from fractions import Fraction

from hushedwires.errors import BadExtent, BadForm, BadPower, BadRepeats, BadRest
from hushedwires.forms import form_at, form_fault, form_of, noise_at
from hushedwires.lines import Line
from hushedwires.patterns import Pattern
from tests.reckon import (
    WRONG_RATIOS, WRONG_WHOLES, Case, fraction, fractions, long_ratio, no_rows, order, random_ratio, random_word,
    ratio, ratios, seeded)
from tests.test_patterns import long_word

SHORT = Pattern((1, -1, -1))


def right_noise(pattern, power, extent):
    return sum(sign * section ** power for section, sign in enumerate(long_word(pattern, extent)))


def random_pattern(source):
    upright = ((1, -1), (1, 1, -1, -1), (1, -1, -1, 1), (1, -1, -1, 1, -1, 1, 1, -1))
    return Pattern(source.choice((random_word(source, source.randint(1, 9)), random_word(source, source.randint(1, 24)),
                                  source.choice(upright))))


def value(form, repeats):
    return sum(coefficient * repeats ** place for place, coefficient in enumerate(fractions(form)))


class NoiseTest(Case):
    def test_small_extents(self):
        source = seeded(73)
        for _ in range(100):
            pattern, power = random_pattern(source), source.randint(0, 6)
            for extent in [source.randint(1, 100) for _ in range(8)] + [1, pattern.period, 24]:
                told = noise_at(pattern, power, extent)
                self.assertRatio(told)
                self.assertEqual(told, ratio(right_noise(pattern, power, extent)))
        self.assertEqual(noise_at(Pattern((1,)), 0, 1), ratio(1))
        self.assertEqual(noise_at(Pattern((1,)), 1, 1), ratio(0))

    def test_large_extents(self):
        far = 10 ** 30
        self.assertEqual(noise_at(Pattern((1,)), 0, far), ratio(far))
        self.assertEqual(noise_at(Pattern((1,)), 1, far), ratio(far * (far - 1) // 2))
        self.assertEqual(noise_at(Pattern((1,)), 3, far), ratio((far * (far - 1) // 2) ** 2))
        self.assertEqual(noise_at(Pattern((1, -1)), 0, far - 1), ratio(1))
        self.assertEqual(noise_at(Pattern((1, -1)), 1, far), ratio(-far // 2))
        self.assertEqual(noise_at(SHORT, 0, far), ratio(1 - (far - 1) // 3))

    def test_refuses(self):
        for thing in WRONG_WHOLES + [-1, 7]:
            self.refuses(BadPower(), noise_at, SHORT, thing, None)
        for thing in WRONG_WHOLES + [0, -1, 10 ** 30 + 1]:
            self.refuses(BadExtent(), noise_at, SHORT, 6, thing)


class FormTest(Case):
    def test_examples(self):
        self.assertEqual([form_of(SHORT, 0, rest) for rest in range(3)], [ratios(0, -1), ratios(1, -1), ratios(0, -1)])
        self.assertEqual(form_of(SHORT, 1, 0), ratios(0, Fraction(-3, 2), Fraction(-3, 2)))

    def test_random_patterns(self):
        source = seeded(74)
        for _ in range(120):
            pattern, power = random_pattern(source), source.randint(0, 6)
            rest = source.randint(0, pattern.period - 1)
            told = form_of(pattern, power, rest)
            self.assertRatios(told, power + 2)
            for repeats in range(12):
                right = right_noise(pattern, power, repeats * pattern.period + rest)
                self.assertEqual(value(told, repeats), right)
                self.assertEqual(form_at(told, repeats), ratio(right))
            self.assertIsNone(form_fault(pattern, power, rest, told))
            far = 10 ** 28 + source.randint(0, 10 ** 28)
            self.assertEqual(form_at(told, far), noise_at(pattern, power, far * pattern.period + rest))

    def test_degrees(self):
        source = seeded(75)
        seen = []
        for _ in range(150):
            pattern, power = random_pattern(source), source.randint(0, 6)
            e = order(Line.even(pattern.period), pattern.signs)
            form = form_of(pattern, power, 0)
            degree = max((place for place, one in enumerate(form) if one != (0, 1)), default=None)
            self.assertEqual(degree, None if power < e else power + 1 - e)
            seen.append((degree is None, e))
        for kind in ((True, 1), (True, 2), (True, 3), (False, 0), (False, 1), (False, 3)):
            self.assertIn(kind, seen)

    def test_refuses(self):
        for thing in WRONG_WHOLES + [-1, 7]:
            self.refuses(BadPower(), form_of, SHORT, thing, None)
            self.refuses(BadPower(), form_fault, SHORT, thing, None, None)
        for thing in WRONG_WHOLES + [-1, 3]:
            self.refuses(BadRest(), form_of, SHORT, 6, thing)
            self.refuses(BadRest(), form_fault, SHORT, 6, thing, None)


class FormAtTest(Case):
    def test_values(self):
        source = seeded(76)
        for _ in range(100):
            form = [random_ratio(source) for _ in range(source.randint(1, 9))]
            repeats = source.choice((0, 1, 2, 7, 10 ** 30, source.randint(0, 10 ** 30)))
            told = form_at(source.choice((form, tuple(form))), repeats)
            self.assertRatio(told)
            self.assertEqual(fraction(told), value(form, repeats))
        long = long_ratio(seeded(77))
        self.assertEqual(fraction(form_at([long] * 9, 10 ** 30)), value([long] * 9, 10 ** 30))

    def test_refuses(self):
        for thing in no_rows() + [[], (), ratios(*([1] * 10))]:
            self.refuses(BadForm(), form_at, thing, None)
        for thing in WRONG_RATIOS:
            self.refuses(BadForm(), form_at, [(1, 1), thing], None)
        for thing in WRONG_WHOLES + [-1, 10 ** 30 + 1]:
            self.refuses(BadRepeats(), form_at, [(1, 1)], thing)


class FormFaultTest(Case):
    def test_first_wrong_repeats(self):
        source = seeded(78)
        seen = []
        for _ in range(300):
            pattern, power = random_pattern(source), source.randint(0, 6)
            rest = source.randint(0, pattern.period - 1)
            form = list(fractions(form_of(pattern, power, rest)))
            # a wrong part with whole roots from 0 on is right there, as long as it can be
            wrong = [Fraction(source.choice((1, -2, 3)))]
            for root in range(source.randint(0, 8)):
                root = root if source.random() < 0.8 else source.randint(0, 9)
                wrong = [low - root * high for low, high in zip([0] + wrong, wrong + [0])]
            count = max(len(form), len(wrong))
            form = [a + b for a, b in zip(form + [0] * (count - len(form)), wrong + [0] * (count - len(wrong)))]
            told = form_fault(pattern, power, rest, ratios(*form))
            right = next((repeats for repeats in range(20) if value(ratios(*form), repeats) != right_noise(
                pattern, power, repeats * pattern.period + rest)), None)
            self.assertIsNotNone(right)
            self.assertEqual(told, right)
            seen.append(told)
        for number in (0, 1, 2, 5, 8):
            self.assertIn(number, seen)

    def test_other_lengths(self):
        for pattern, power in ((SHORT, 0), (SHORT, 1), (Pattern((1, -1)), 0)):
            form = form_of(pattern, power, 0)
            self.assertIsNone(form_fault(pattern, power, 0, list(form) + ratios_of_zeros(9 - len(form))))
        self.assertIsNone(form_fault(Pattern((1, -1)), 0, 0, ratios(0)))
        self.assertEqual(form_fault(Pattern((1, -1)), 1, 0, ratios(0)), 1)
        self.assertEqual(form_fault(SHORT, 6, 0, ratios(0)), 1)
        self.assertEqual(form_fault(SHORT, 0, 1, ratios(0)), 0)

    def test_refuses(self):
        for thing in no_rows() + [[], (), ratios(*([1] * 10))]:
            self.refuses(BadForm(), form_fault, SHORT, 6, 2, thing)
        for thing in WRONG_RATIOS:
            self.refuses(BadForm(), form_fault, SHORT, 0, 0, [(1, 1), thing])


def ratios_of_zeros(many):
    return [(0, 1)] * many


if __name__ == "__main__":
    unittest.main()
