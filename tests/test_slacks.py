"""Points 9.3, 9.4 and 9.13: slacks, shifts, and the noises that shifts can make."""

import unittest
from fractions import Fraction
from itertools import product

from hushedwires.errors import BadAmount, BadHum, BadLine, BadShift, BadSlack, BadWord
from hushedwires.lines import Line
from hushedwires.slacks import ShiftRange, check_shifts, check_slacks, shifted_line, shifts_meeting, slack_range
from tests.reckon import (
    WRONG_RATIOS, WRONG_WHOLES, Case, crossings, fraction, fractions, line_from, long_ratio, no_rows, noise,
    random_line, random_ratio, random_word, ratio, ratios, seeded)

EVEN = Line.even(4)
QUARTERS = [(1, 4)] * 3


def random_slacks(source, line, shares=(0, 1, 2, 3)):
    """Slacks that fit: each at most half of both sections beside its pole."""
    lengths = fractions(line.lengths)
    return [ratio(min(one, other) * source.choice(shares) / 6) for one, other in zip(lengths, lengths[1:])]


def shifted_noise(line, word, hum, shifts):
    """The noise with the lengths that the shifts make, which may be 0."""
    ends = [Fraction(0)] + fractions(shifts) + [Fraction(0)]
    lengths = [length + end - start for length, start, end in zip(fractions(line.lengths), ends, ends[1:])]
    return sum(length * sign * entry for length, sign, entry in zip(lengths, word, fractions(hum)))


class CheckTest(Case):
    def test_slacks(self):
        for form in (list, tuple):
            self.assertEqual(check_slacks(EVEN, form(ratios(1, 0, 1))), ratios(1, 0, 1))
        self.assertEqual(check_slacks(Line.even(1), []), ())
        for thing in no_rows() + [[], ratios(0, 0), ratios(0, 0, 0, 0)]:
            self.refuses(BadSlack(0, "many"), check_slacks, EVEN, thing)
        self.refuses(BadSlack(0, "many"), check_slacks, Line.even(1), ratios(0))
        for thing in WRONG_RATIOS + [(-1, 1), (-1, 9)]:
            # pole by pole ahead of all sections
            self.refuses(BadSlack(2, "slack"), check_slacks, EVEN, [(9, 1), thing, None])
            self.refuses(BadSlack(3, "slack"), check_slacks, EVEN, [(9, 1), (9, 1), thing])
        line = line_from([2, 1, 3])
        self.assertEqual(check_slacks(line, [(1, 2), (1, 2)]), ((1, 2), (1, 2)))
        self.refuses(BadSlack(1, "length"), check_slacks, line, [(1, 2), (2, 3)])
        self.refuses(BadSlack(0, "length"), check_slacks, line, [(3, 1), (9, 1)])
        self.refuses(BadSlack(2, "length"), check_slacks, line_from([9, 9, 1]), [(1, 1), (2, 1)])
        self.assertEqual(check_slacks(line_from([1, 9, 1]), ratios(1, 1)), ratios(1, 1))

    def test_shifts(self):
        for form in (list, tuple):
            self.assertEqual(check_shifts(EVEN, form(ratios(5, -7, 0))), ratios(5, -7, 0))
        for call in (check_shifts, shifted_line):
            for thing in no_rows() + [[], ratios(0, 0), ratios(0, 0, 0, 0)]:
                self.refuses(BadShift(0), call, EVEN, thing)
            for thing in WRONG_RATIOS:
                self.refuses(BadShift(2), call, EVEN, [(9, 1), thing, None])
                self.refuses(BadShift(1), call, EVEN, [thing, thing, thing])

    def test_shifted_lines(self):
        told = shifted_line(EVEN, [(1, 2), (-1, 4), (0, 1)])
        self.assertEqual(told, Line([(3, 2), (1, 4), (5, 4), (1, 1)], EVEN.marks))
        self.assertEqual(shifted_line(EVEN, ratios(0, 0, 0)), EVEN)
        self.assertEqual(shifted_line(Line.even(1), ()), Line.even(1))
        self.refuses(BadLine(1, "length"), shifted_line, EVEN, ratios(1, 0, 0))
        self.refuses(BadLine(0, "length"), shifted_line, EVEN, ratios(-1, 0, 5))
        self.refuses(BadLine(3, "length"), shifted_line, EVEN, ratios(0, 0, 1))
        source = seeded(108)
        for _ in range(100):
            line = random_line(source, source.randint(1, 24))
            slacks = random_slacks(source, line, (0, 1, 2))
            shifts = [ratio(source.choice((1, -1, 0)) * fraction(slack)) for slack in slacks]
            told = shifted_line(line, shifts)
            hum, word = [random_ratio(source) for _ in line.lengths], random_word(source, len(line))
            self.assertEqual(noise(told, word, hum), shifted_noise(line, word, hum, shifts))
            self.assertEqual((sum(fractions(told.lengths)), told.marks), (sum(fractions(line.lengths)), line.marks))


class RangeTest(Case):
    def check(self, source, line, word, hum, slacks):
        told = slack_range(line, source.choice((list, tuple))(word), hum, slacks)
        self.assertIs(type(told), ShiftRange)
        for shifts, amount in ((told.low_shifts, told.low), (told.high_shifts, told.high)):
            self.assertRatios(shifts, len(line) - 1)
            self.assertTrue(all(abs(fraction(shift)) <= fraction(slack) for shift, slack in zip(shifts, slacks)))
            self.assertEqual(shifted_noise(line, word, hum, shifts), fraction(amount))
        signed = [sign * entry for sign, entry in zip(word, fractions(hum))]
        reach = sum(fraction(slack) * abs(one - other) for slack, one, other in zip(slacks, signed, signed[1:]))
        middle = noise(line, word, hum)
        self.assertEqual((told.low, told.high), (ratio(middle - reach), ratio(middle + reach)))
        return told

    def test_example(self):
        word, hum = (1, -1, 1, -1), ratios(1, 1, 1, 1)
        told = slack_range(EVEN, word, hum, QUARTERS)
        self.assertEqual((told.low, told.high), ((-3, 2), (3, 2)))

    def test_corners(self):
        source = seeded(109)
        for _ in range(80):
            line = random_line(source, source.randint(1, 6))
            word, hum = random_word(source, len(line)), [random_ratio(source, -2, 2, 2) for _ in line.lengths]
            slacks = random_slacks(source, line)
            told = self.check(source, line, word, hum, slacks)
            corners = [shifted_noise(line, word, hum, [ratio(side * fraction(slack)) for side, slack in zip(sides, slacks)])
                       for sides in product((1, -1, 0), repeat=len(slacks))]
            self.assertEqual((fraction(told.low), fraction(told.high)), (min(corners), max(corners)))

    def test_drawn_lines(self):
        source = seeded(110)
        for _ in range(150):
            line = random_line(source, source.randint(1, 24))
            word, slacks = random_word(source, len(line)), random_slacks(source, line)
            self.check(source, line, word, [random_ratio(source) for _ in line.lengths], slacks)
            level = ratios(*[1] * len(line))
            told = self.check(source, line, word, level, slacks)
            crossed = sum(fraction(slacks[pole - 1]) for pole in crossings(word))
            self.assertEqual(fraction(told.high) - noise(line, word, level), 2 * crossed)

    def test_meeting(self):
        source = seeded(111)
        for _ in range(200):
            line = random_line(source, source.randint(1, 12))
            word, hum = random_word(source, len(line)), [random_ratio(source, -2, 2, 2) for _ in line.lengths]
            slacks = random_slacks(source, line)
            told = slack_range(line, word, hum, slacks)
            low, high = fraction(told.low), fraction(told.high)
            middle = noise(line, word, hum)
            for amount in (low, high, middle, (low + 2 * high) / 3, (3 * low + high) / 4):
                shifts = shifts_meeting(line, word, hum, slacks, ratio(amount))
                self.assertRatios(shifts, len(line) - 1)
                self.assertTrue(all(abs(fraction(shift)) <= fraction(slack) for shift, slack in zip(shifts, slacks)))
                self.assertEqual(shifted_noise(line, word, hum, shifts), amount)
            for amount in (low - Fraction(1, 10 ** 9), high + Fraction(1, 10 ** 9), high + 9):
                self.assertIsNone(shifts_meeting(line, word, hum, slacks, ratio(amount)))

    def test_edges(self):
        one = Line.even(1)
        self.assertEqual(slack_range(one, [1], ratios(3), []), ShiftRange((3, 1), (3, 1), (), ()))
        self.assertEqual(shifts_meeting(one, [1], ratios(3), [], (3, 1)), ())
        self.assertIsNone(shifts_meeting(one, [1], ratios(3), [], (2, 1)))
        # as great as the length is let: the section between then has the length 0
        two = slack_range(Line.even(2), [1, -1], ratios(1, 1), ratios(1))
        self.assertEqual((two.low, two.high), ((-2, 1), (2, 1)))

    def test_long_numbers(self):
        source = seeded(112)
        line = Line([long_ratio(source) for _ in range(24)], Line.even(24).marks)
        slacks = [ratio(min(one, other), 2) for one, other in zip(fractions(line.lengths), fractions(line.lengths)[1:])]
        self.check(source, line, random_word(source, 24), [long_ratio(source) for _ in range(24)], slacks)

    def test_refuses(self):
        word, hum = (1, -1, 1, 1), ratios(1, 1, 1, 1)
        for call, more in ((slack_range, []), (shifts_meeting, [None])):
            self.refuses(BadWord(0, "many"), call, EVEN, (1, 1), None, None, *more)
            for thing in WRONG_WHOLES + [0]:
                self.refuses(BadWord(3, "sign"), call, EVEN, (-1, 1, 1, thing), None, None, *more)
            self.refuses(BadWord(0, "first"), call, EVEN, (-1, 1, 1, 1), None, None, *more)
            self.refuses(BadHum(0), call, EVEN, word, hum[:3], None, *more)
            self.refuses(BadHum(2), call, EVEN, word, hum[:2] + (None, None), None, *more)
            self.refuses(BadSlack(0, "many"), call, EVEN, word, hum, (), *more)
            self.refuses(BadSlack(2, "slack"), call, EVEN, word, hum, [(9, 1), (-1, 1), (9, 1)], *more)
            self.refuses(BadSlack(1, "length"), call, EVEN, word, hum, [(1, 1), (1, 1), (0, 1)], *more)
        for thing in WRONG_RATIOS:
            self.refuses(BadAmount(), shifts_meeting, EVEN, word, hum, QUARTERS, thing)

    def test_result(self):
        given = {"low": [1], "high": 2, "low_shifts": 3, "high_shifts": 4}
        one = ShiftRange(**given)
        self.assertEqual(vars(one), given)
        self.assertIs(one.low, given["low"])
        for name in given:
            self.assertNotEqual(one, ShiftRange(**{**given, name: None}))


if __name__ == "__main__":
    unittest.main()
