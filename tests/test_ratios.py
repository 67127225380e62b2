"""Points 1.1, 1.2 and the texts of ratios in 1.10."""

import unittest
from fractions import Fraction

from hushedwires.errors import BadRatio
from hushedwires.ratios import (
    HALF, ONE, ZERO, common_bottom, compare, greatest_of, is_ratio, is_whole, least_of, long_plus, make_ratio, minus,
    negative, over, plus, power_of, ratio_of, ratio_text, size_of, sum_of, times)
from tests.reckon import WRONG_RATIOS, WRONG_WHOLES, Case, fraction, long_ratio, no_rows, ratio, seeded

SMALL = [ratio(top, bottom) for top in range(-5, 6) for bottom in range(1, 5)]


class RatiosTest(Case):
    def test_constants(self):
        self.assertEqual((ZERO, ONE, HALF), ((0, 1), (1, 1), (1, 2)))

    def test_is_whole(self):
        for thing in WRONG_WHOLES + no_rows()[3:]:
            self.assertIs(is_whole(thing), False, thing)
        for thing in (0, 1, -1, 10 ** 300, -10 ** 300):
            self.assertIs(is_whole(thing), True)
        self.assertIs(is_whole(3, 3, 3), True)
        self.assertIs(is_whole(2, 3, 3), False)
        self.assertIs(is_whole(4, 3, 3), False)
        self.assertIs(is_whole(2, 3), False)
        self.assertIs(is_whole(4, high=3), False)
        self.assertIs(is_whole(-4, high=3), True)
        self.assertIs(is_whole(10 ** 40, low=0), True)
        self.assertIs(is_whole(True, 0, 1), False)
        self.assertIs(is_whole(False, low=0), False)

    def test_is_ratio(self):
        for thing in WRONG_RATIOS + no_rows():
            self.assertIs(is_ratio(thing), False, thing)
        for thing in ((0, 1), (1, 1), (-7, 2), (2, 7), (10 ** 300 - 1, 10 ** 299)):
            self.assertIs(is_ratio(thing), True)

    def test_make_ratio(self):
        self.assertEqual(make_ratio(3), (3, 1))
        self.assertEqual(make_ratio(6, 4), (3, 2))
        self.assertEqual(make_ratio(6, -4), (-3, 2))
        self.assertEqual(make_ratio(-6, -4), (3, 2))
        self.assertEqual(make_ratio(0, -7), (0, 1))
        self.assertEqual(make_ratio(0, 7), (0, 1))
        self.assertEqual(make_ratio(top=4, bottom=2), (2, 1))
        for top in range(-6, 7):
            for bottom in (-4, -3, -2, -1, 1, 2, 3, 4):
                self.assertEqual(make_ratio(top, bottom), ratio(top, bottom))

    def test_make_ratio_refuses(self):
        for thing in WRONG_WHOLES:
            self.refuses(BadRatio("top"), make_ratio, thing)
            self.refuses(BadRatio("top"), make_ratio, thing, 0)
            self.refuses(BadRatio("bottom"), make_ratio, 1, thing)
        self.refuses(BadRatio("bottom"), make_ratio, 1, 0)
        self.refuses(BadRatio("bottom"), make_ratio, 0, 0)

    def test_couples_of_ratios(self):
        for one in SMALL:
            for other in SMALL:
                left, right = fraction(one), fraction(other)
                self.assertEqual(plus(one, other), ratio(left + right))
                self.assertEqual(minus(one, other), ratio(left - right))
                self.assertEqual(times(one, other), ratio(left * right))
                self.assertEqual(compare(one, other), (left > right) - (left < right))
                if right:
                    self.assertEqual(over(one, other), ratio(left / right))
                else:
                    self.refuses(BadRatio("zero"), over, one, other)

    def test_single_ratios(self):
        for one in SMALL:
            self.assertEqual(negative(one), ratio(-fraction(one)))
            self.assertEqual(size_of(one), ratio(abs(fraction(one))))
            for exponent in range(8):
                self.assertEqual(power_of(one, exponent), ratio(fraction(one) ** exponent))
        self.assertEqual(power_of(ZERO, 0), ONE)
        self.assertEqual(power_of((2, 1), 1000), (2 ** 1000, 1))
        self.assertEqual(power_of((-1, 1), 10 ** 9 + 1), (-1, 1))

    def test_rows_of_ratios(self):
        for form in (list, tuple):
            self.assertEqual(sum_of(form([])), ZERO)
            self.assertEqual(sum_of(form(SMALL)), ratio(sum(fraction(one) for one in SMALL)))
            self.assertEqual(sum_of(form([(1, 2), (1, 3), (1, 6)])), ONE)
            self.assertEqual(least_of(form(SMALL)), (-5, 1))
            self.assertEqual(greatest_of(form(SMALL)), (5, 1))
            self.assertEqual(least_of(form([(1, 2), (1, 3), (2, 5)])), (1, 3))
            self.assertEqual(greatest_of(form([(-1, 2), (-1, 3), (-2, 5)])), (-1, 3))
            self.assertEqual(least_of(form([(7, 3)])), (7, 3))
            self.assertEqual(greatest_of(form([(7, 3)])), (7, 3))

    def test_long_numbers(self):
        one, other = (10 ** 300 - 1, 10 ** 299 + 1), (3, 10 ** 299 + 7)
        self.assertEqual(plus(one, other), ratio(fraction(one) + fraction(other)))
        self.assertEqual(compare(one, other), 1)

    def test_common_bottom(self):
        self.assertEqual(common_bottom([]), 1)
        self.assertEqual(common_bottom([(1, 4), (5, 6), (-7, 1), ZERO]), 12)

    def test_long_plus(self):
        for one in SMALL:
            for other in SMALL:
                self.assertEqual(long_plus(one, other), plus(one, other))
        source = seeded(12)
        for _ in range(20):
            one, other = long_ratio(source), long_ratio(source, 20)
            self.assertEqual(long_plus(one, other), ratio(fraction(one) + fraction(other)))
            self.assertEqual(long_plus(one, (-one[0], one[1])), ZERO)


class RatioTextTest(Case):
    def test_written(self):
        self.assertEqual(ratio_text((3, 1)), "3")
        self.assertEqual(ratio_text((-7, 2)), "-7/2")
        self.assertEqual(ratio_text((0, 1)), "0")
        self.assertEqual(ratio_text((-1, 1)), "-1")

    def test_read_back(self):
        for one in SMALL + [(10 ** 300 - 1, 1), (-10 ** 300 + 1, 10 ** 299), (1, 10 ** 300 - 1)]:
            self.assertEqual(ratio_of(ratio_text(one)), one)

    def test_read(self):
        for text in ("0", "-5", "12", "7/2", "-7/12", "9" * 300, "-" + "9" * 300 + "/1" + "0" * 299):
            made = ratio_of(text)
            self.assertTrue(is_ratio(made))
            self.assertEqual(ratio_text(made), text)
            self.assertEqual(fraction(made), Fraction(text))

    def test_refused(self):
        for text in ("", "-", "/", "1/", "/2", "-/2", "--1", "+1", "-0", "00", "01", "-01", "1/02", "1/1", "1/0", "0/1",
                     "0/2", "2/4", "-2/4", "1/-2", "1//2", "1/2/3", " 1", "1 ", "1 /2", "1.5", "1e3", "0x1", "1_0",
                     "\u0661", "1\u0662", "\u00b2", "1/\u0662", "a", "1\n", "9" * 301, "-" + "9" * 301,
                     "1/" + "7" * 301, "-0/3"):
            self.refuses(BadRatio("text"), ratio_of, text)
        for thing in (None, 1, True, (1, 1), ["1"], b"1", 1.0, {}):
            self.refuses(BadRatio("text"), ratio_of, thing)


if __name__ == "__main__":
    unittest.main()
