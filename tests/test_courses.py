"""Point 3.12: the greatest noise as all steps grow alike."""

import unittest
from fractions import Fraction

from hushedwires.courses import Course, most_factor, noise_course
from hushedwires.errors import BadAmount, BadFactor, BadWord, OtherLine, TooMany
from hushedwires.limits import Limits
from hushedwires.lines import Line
from hushedwires.loudest import Endless, endless_fault, greatest_noise
from tests.limited import is_endless, limits_from, random_limits, running
from tests.reckon import (
    WRONG_RATIOS, Case, fraction, line_from, long_ratio, random_line, random_word, ratio, ratios, seeded)


def greatest_at(line, word, limits, factor):
    """The greatest noise with all steps times a factor."""
    steps = [None if step is None else ratio(fraction(step) * factor) for step in limits.steps]
    return fraction(greatest_noise(line, word, Limits(limits.mosts, steps)).amount)


class CourseTest(Case):
    def check(self, line, word, limits):
        told = noise_course(line, word, limits)
        if is_endless(line, word, limits, ()):
            self.assertIs(type(told), Endless)
            self.assertIsNone(endless_fault(line, word, limits, told))
            return told
        self.assertIs(type(told), Course)
        self.assertIs(type(told.corners), tuple)
        for corner in told.corners:
            self.assertRatios(corner, 2)
        self.assertRatio(told.slope)
        corners = [(fraction(factor), fraction(amount)) for factor, amount in told.corners]
        self.assertEqual(corners[0][0], 0)
        slopes = [(reached - amount) / (end - start) for (start, amount), (end, reached) in zip(corners, corners[1:])]
        slopes.append(fraction(told.slope))
        self.assertEqual(sorted(set(slopes), reverse=True), slopes)
        self.assertGreaterEqual(slopes[-1], 0)
        self.check_amounts(line, word, limits, corners, slopes, told)
        return told

    def check_amounts(self, line, word, limits, corners, slopes, told):
        # as the course never bends upward, three right points on a piece make the whole piece right
        ends = [start for start, _ in corners] + [corners[-1][0] + 1000]
        for (start, amount), end, slope in zip(corners, ends[1:], slopes):
            for factor in (start, (start + end) / 2, end):
                right = amount + slope * (factor - start)
                self.assertEqual(greatest_at(line, word, limits, factor), right)
                self.assertEqual(told.amount_at(ratio(factor)), ratio(right))
        self.assertEqual(greatest_at(line, word, limits, 10 ** 40), fraction(told.amount_at((10 ** 40, 1))))

    def test_example(self):
        told = self.check(Line.even(4), [1, -1, -1, 1], Limits.alike(4, (2, 1), (1, 2)))
        self.assertEqual(told, Course((ratios(0, 0), ratios(8, 8)), ratio(0)))
        told = self.check(Line.even(4), (1, -1, -1, 1), Limits.alike(4, None, (1, 2)))
        self.assertEqual(told, Course((ratios(0, 0),), ratio(1)))
        told = self.check(Line.even(2), (1, 1), limits_from([1, None], [3]))
        self.assertEqual(told, Course((ratios(0, 2),), ratio(3)))
        told = self.check(Line.even(1), (1,), limits_from([5], []))
        self.assertEqual(told, Course((ratios(0, 5),), ratio(0)))
        told = self.check(Line.even(2), (1, -1), limits_from([1, 2], [0]))
        self.assertEqual(told, Course((ratios(0, 0),), ratio(0)))
        self.assertIs(type(self.check(Line.even(2), (1, 1), limits_from([None, None], [0]))), Endless)

    def test_many_lines(self):
        source = seeded(312)
        corners, endless = [], 0
        for _ in range(250):
            line = random_line(source, source.randint(1, 7))
            limits = random_limits(source, len(line), source.choice((0, 0.2, 0.5)))
            told = self.check(line, random_word(source, len(line)), limits)
            if type(told) is Endless:
                endless += 1
            else:
                corners.append(len(told.corners))
        self.assertGreater(endless, 20)
        self.assertGreater(max(corners), 3)
        self.assertIn(1, corners)

    def test_twelve_sections(self):
        source = seeded(313)
        most = 0
        for _ in range(12):
            line = random_line(source, 12)
            told = self.check(line, random_word(source, 12), random_limits(source, 12, 0, 9, 5))
            most = max(most, len(told.corners))
        self.assertGreater(most, 5)

    def test_many_figures(self):
        source = seeded(314)
        line = Line([long_ratio(source, 40) for _ in range(12)], ratios(*range(12)))
        limits = Limits([long_ratio(source, 40) for _ in range(12)], [long_ratio(source, 40) for _ in range(11)])
        self.check(line, (1, -1, 1, 1, -1, -1, 1, -1, 1, 1, -1, -1), limits)

    def test_free_poles_stay_free(self):
        told = self.check(line_from([1, 2, 3]), (1, -1, 1), limits_from([1, 1, None], [None, 2]))
        self.assertEqual(told.corners[0], ratios(0, 2))
        self.assertEqual(told.slope, ratio(6))

    def test_refuses(self):
        other = Limits.alike(3, None, None)
        calls = [noise_course, lambda line, word, limits: most_factor(line, word, limits, None)]
        for call in calls:
            self.refuses(TooMany(12), call, Line.even(13), (1,), other)
            self.refuses(TooMany(12), call, Line.even(24), (1,) * 24, Limits.alike(24, (1, 1), (1, 1)))
            self.refuses(BadWord(0, "many"), call, Line.even(12), (1,), other)
            self.refuses(BadWord(1, "sign"), call, Line.even(2), (1, 0), other)
            self.refuses(BadWord(0, "first"), call, Line.even(2), (-1, 1), other)
            self.refuses(OtherLine(), call, Line.even(2), (1, 1), other)

    def test_amount_at(self):
        course = Course((ratios(0, 1), ratios(2, 5), ratios(6, 7)), (1, 4))
        for factor, amount in ((0, 1), (1, 3), (2, 5), (3, Fraction(11, 2)), (6, 7), (10, 8)):
            self.assertEqual(course.amount_at(ratio(factor)), ratio(amount))
        for thing in WRONG_RATIOS + [(-1, 1), (-1, 2)]:
            self.refuses(BadFactor(), course.amount_at, thing)

    def test_result(self):
        told = [ratios(0, 1)]
        course = Course(told, "slope")
        self.assertIs(course.corners, told)
        self.assertEqual(course, Course([ratios(0, 1)], "slope"))
        for other in (Course(told, 1), Course((), "slope"), (told, "slope")):
            self.assertNotEqual(course, other)


class MostFactorTest(Case):
    def test_example(self):
        line, word, limits = Line.even(4), [1, -1, -1, 1], Limits.alike(4, (2, 1), (1, 2))
        for amount, told in ((-1, ("none",)), (0, ("to", ratio(0))), (3, ("to", ratio(3))), (8, ("all",)),
                             (Fraction(15, 2), ("to", ratio(15, 2))), (9, ("all",))):
            self.assertEqual(most_factor(line, word, limits, ratio(amount)), told)
        free = Limits.alike(4, None, (1, 2))
        self.assertEqual(most_factor(line, word, free, ratio(10 ** 40)), ("to", ratio(10 ** 40)))
        self.assertEqual(most_factor(line, (1, 1, 1, 1), free, ratio(10 ** 40)), ("none",))

    def test_many_lines(self):
        source = seeded(315)
        seen = {}
        for _ in range(300):
            line = random_line(source, source.randint(1, 6))
            word, limits = random_word(source, len(line)), random_limits(source, len(line), 0.2)
            amount = Fraction(source.randint(-2, 40), source.randint(1, 3))
            told = most_factor(line, word, limits, ratio(amount))
            seen[told[0]] = seen.get(told[0], 0) + 1
            self.assertIs(type(told), tuple)
            if is_endless(line, word, limits, ()):
                self.assertEqual(told, ("none",))
            elif told == ("none",):
                self.assertGreater(greatest_at(line, word, limits, 0), amount)
            elif told == ("all",):
                self.assertLessEqual(greatest_at(line, word, limits, 10 ** 30), amount)
            else:
                self.assertRatio(told[1])
                factor = fraction(told[1])
                self.assertEqual(greatest_at(line, word, limits, factor), amount)
                self.assertGreater(greatest_at(line, word, limits, factor + Fraction(1, 10 ** 20)), amount)
        for kind in ("all", "to", "none"):
            self.assertGreater(seen[kind], 30)

    def test_bad_amount(self):
        line, limits = Line.even(2), Limits.alike(2, None, (1, 1))
        for thing in WRONG_RATIOS:
            self.refuses(BadAmount(), most_factor, line, (1, -1), limits, thing)
            self.refuses(BadAmount(), most_factor, line, (1, 1), limits, thing)
        self.refuses(BadWord(0, "many"), most_factor, line, (1,), limits, None)
        self.refuses(OtherLine(), most_factor, line, (1, 1), Limits.alike(3, None, None), None)
        self.assertEqual(running(line, (1, 1))[-1], 2)


if __name__ == "__main__":
    unittest.main()
