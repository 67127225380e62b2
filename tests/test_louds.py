"""Points 7.7 and 7.10: where the noises of repeated words stay within a bound."""

import time
import unittest
from fractions import Fraction
from math import prod

from hushedwires.errors import BadBound, BadExtent, BadPower
from hushedwires.louds import (
    QuietExtents, Reached, greatest_upto, loud_from, quiet_extents, quiet_runs, turns_within)
from hushedwires.patterns import Pattern
from tests.reckon import WRONG_RATIOS, WRONG_WHOLES, Case, fraction, long_ratio, ratio, seeded
from tests.test_forms import random_pattern
from tests.test_patterns import long_word, small_patterns

SHORT, TURN = Pattern((1, -1, -1)), Pattern((1, -1))
MANY = 120


def noises_upto(pattern, power, extent):
    """The noises at the extents from 0 on."""
    noises = [0]
    for section, sign in enumerate(long_word(pattern, extent)):
        noises.append(noises[-1] + sign * section ** power)
    return noises


def polynomial_at(points, place):
    """The value of the polynomial through points at 0, 1, .., from their products (Lagrange)."""
    total = Fraction(0)
    for number, point in enumerate(points):
        term = Fraction(point)
        for other in range(len(points)):
            if other != number:
                term = term * (place - other) / (number - other)
        total += term
    return total


def noise_far(pattern, power, extent):
    """The noise at a far extent from those at the first repeats."""
    repeats, rest = divmod(extent, pattern.period)
    noises = noises_upto(pattern, power, (power + 2) * pattern.period + rest)
    return polynomial_at(noises[rest::pattern.period][:power + 2], repeats)


def differences(values):
    """The first value, the first difference, the first one of the differences of these, .."""
    firsts = []
    while values:
        firsts.append(values[0])
        values = [behind - ahead for ahead, behind in zip(values, values[1:])]
    return firsts


def points_at(pattern, power, rest, many):
    return noises_upto(pattern, power, (many - 1) * pattern.period + rest)[rest::pattern.period][:many]


def within(runs, repeats):
    return any(first <= repeats and (last is None or repeats <= last) for first, last in runs)


class QuietTest(Case):
    def check(self, pattern, power, bound):
        """Compare with the noises at the first repeats; return the runs of all rests."""
        told = quiet_extents(pattern, power, bound)
        self.assertIs(type(told), QuietExtents)
        self.assertEqual((told.period, len(told.rows)), (pattern.period, pattern.period))
        noises = noises_upto(pattern, power, MANY)
        for extent in range(1, MANY + 1):
            quiet = abs(noises[extent]) <= fraction(bound)
            repeats, rest = divmod(extent, pattern.period)
            self.assertIs(within(told.rows[rest], repeats), quiet)
            self.assertIs(told.holds(extent), quiet)
        for rest, runs in enumerate(told.rows):
            self.assertIs(type(runs), tuple)
            self.check_runs(runs, points_at(pattern, power, rest, power + 3), fraction(bound), rest)
        self.check_last(told, pattern, power, bound)
        return told.rows

    def check_runs(self, runs, points, bound, rest):
        behind = 1 if rest == 0 else 0
        for number, (first, last) in enumerate(runs):
            self.assertGreaterEqual(first, behind)
            if last is None:
                self.assertEqual(len(runs), number + 1)
                self.assertEqual(set(points[:-1]), {points[0]})
            else:
                self.assertLessEqual(first, last)
                behind = last + 2
                self.assertLessEqual(abs(polynomial_at(points, last)), bound)
                self.assertGreater(abs(polynomial_at(points, last + 1)), bound)
                self.assertLessEqual(abs(polynomial_at(points, first)), bound)
                if first > (1 if rest == 0 else 0):
                    self.assertGreater(abs(polynomial_at(points, first - 1)), bound)

    def check_last(self, told, pattern, power, bound):
        ends = [run for runs in told.rows for run in runs]
        from_on = loud_from(pattern, power, bound)
        if any(last is None for _, last in ends):
            self.assertIsNone(told.last_extent())
            self.assertIsNone(from_on)
            return
        last = max([0] + [last * pattern.period + rest for rest, runs in enumerate(told.rows) for _, last in runs])
        self.assertEqual(told.last_extent(), last)
        self.assertEqual(from_on, last + 1)
        for extent in range(last + 1, last + 2 * pattern.period + 1):
            self.assertGreater(abs(noise_far(pattern, power, extent)), fraction(bound))

    def test_examples(self):
        told = quiet_extents(SHORT, 0, ratio(5))
        self.assertEqual(told, QuietExtents(3, (((1, 5),), ((0, 6),), ((0, 5),))))
        self.assertEqual(told.last_extent(), 19)
        self.assertEqual(loud_from(SHORT, 0, ratio(5)), 20)
        self.assertEqual(greatest_upto(SHORT, 0, 20), Reached((6, 1), 18))
        self.assertEqual(quiet_extents(TURN, 0, ratio(0)).rows, (((1, None),), ()))
        self.assertEqual(quiet_extents(TURN, 0, ratio(1)).rows, (((1, None),), ((0, None),)))
        self.assertEqual(quiet_extents(Pattern((1,)), 0, (1, 2)).rows, ((),))
        self.assertEqual(loud_from(Pattern((1,)), 0, (1, 2)), 1)
        self.assertEqual(loud_from(Pattern((1,)), 6, ratio(0)), 2)

    def test_small_patterns(self):
        for pattern in small_patterns(4):
            for power in range(7):
                for bound in ((0, 1), (1, 2), (7, 3), (40, 1)):
                    self.check(pattern, power, bound)

    def test_random_patterns(self):
        source = seeded(77)
        most = 0
        for _ in range(150):
            pattern, power = random_pattern(source), source.randint(0, 6)
            noises = noises_upto(pattern, power, MANY)
            # just at a noise, a little below it and above it
            size = abs(source.choice(noises[1:source.choice((10, MANY))]))
            for bound in {ratio(size), ratio(max(0, 3 * size - 1), 3), ratio(3 * size + 1, 3)}:
                rows = self.check(pattern, power, bound)
                most = max([most] + [len(runs) for runs in rows])
        self.assertEqual(most, 2)

    def test_runs_of_any_polynomial(self):
        source = seeded(76)
        most = 0
        for _ in range(400):
            roots = [source.randint(-5, 45) for _ in range(source.randint(0, 6))]
            values = [prod(place - root for root in roots) for place in range(60)]
            shift, factor = source.randint(-50, 50), source.choice((1, -1, 3))
            values = [factor * value + shift for value in values]
            firsts = differences(values[:len(roots) + 1])
            widest = source.choice((0, 1, 30, abs(values[source.randint(0, 40)])))
            runs = quiet_runs(firsts, widest)
            for place, value in enumerate(values):
                self.assertIs(within(runs, place), abs(value) <= widest)
            for (_, last), (first, _) in zip(runs, runs[1:]):
                self.assertGreater(first, last + 1)
            most = max(most, len(runs))
            first, last = source.randint(0, 9), source.randint(10, 59)
            sizes = [abs(value) for value in values[first:last + 1]]
            candidates = turns_within(firsts, first, last)
            self.assertTrue(all(first <= place <= last for place in candidates))
            self.assertIn(first + sizes.index(max(sizes)), candidates)
        self.assertGreaterEqual(most, 5)

    def test_endless_just_for_small_constants(self):
        for pattern in small_patterns(6):
            for power in range(3):
                for bound in (0, 1, 2):
                    told = quiet_extents(pattern, power, ratio(bound))
                    for rest, runs in enumerate(told.rows):
                        points = points_at(pattern, power, rest, power + 3)
                        endless = bool(runs) and runs[-1][1] is None
                        self.assertIs(endless, len(set(points)) == 1 and abs(points[0]) <= bound)
                    if power == 0 and bound == 2 and pattern.total != 0:
                        self.assertIsNotNone(loud_from(pattern, 0, ratio(bound)))

    def test_long_bounds(self):
        source = seeded(78)
        start = time.monotonic()
        for figures in (30, 300):
            for power in range(7):
                pattern = random_pattern(source)
                bound = long_ratio(source, figures)
                bound = (bound[0] * bound[1], 1) if figures < 300 else (10 ** 299 + source.randint(0, 9), 1)
                told = quiet_extents(pattern, power, bound)
                for rest, runs in enumerate(told.rows):
                    self.check_runs(runs, points_at(pattern, power, rest, power + 3), fraction(bound), rest)
                self.check_last(told, pattern, power, bound)
        self.assertLess(time.monotonic() - start, 60)

    def test_holds_far(self):
        told = quiet_extents(SHORT, 0, ratio(10 ** 29))
        self.assertIs(told.holds(3 * 10 ** 29), True)
        self.assertIs(told.holds(3 * 10 ** 29 + 1), True)
        self.assertIs(told.holds(3 * 10 ** 29 + 3), False)
        self.assertIs(told.holds(3 * 10 ** 29 + 4), True)
        self.assertIs(told.holds(3 * 10 ** 29 + 7), False)
        self.assertEqual(told.last_extent(), 3 * 10 ** 29 + 4)
        # told extents may lie beyond 10 ** 30
        self.assertEqual(quiet_extents(SHORT, 0, ratio(10 ** 40)).last_extent(), 3 * 10 ** 40 + 4)
        self.assertEqual(loud_from(SHORT, 0, ratio(10 ** 40)), 3 * 10 ** 40 + 5)

    def test_made_by_hand(self):
        told = QuietExtents(2, (((3, 4), (6, 6)), ((0, 0),)))
        self.assertEqual([extent for extent in range(1, 20) if told.holds(extent)], [1, 6, 8, 12])
        self.assertEqual(told.last_extent(), 12)
        self.assertEqual(QuietExtents(1, ((),)).last_extent(), 0)
        self.assertIsNone(QuietExtents(2, ((), ((5, None),))).last_extent())
        self.assertIs(QuietExtents(2, ((), ((5, None),))).holds(10 ** 30 - 1), True)

    def test_refuses(self):
        for call in (quiet_extents, loud_from):
            for thing in WRONG_WHOLES + [-1, 7]:
                self.refuses(BadPower(), call, SHORT, thing, None)
            for thing in WRONG_RATIOS + [(-1, 1), (-1, 3)]:
                self.refuses(BadBound(), call, SHORT, 6, thing)
        for thing in WRONG_WHOLES + [-1, 7]:
            self.refuses(BadPower(), greatest_upto, SHORT, thing, None)
        for thing in WRONG_WHOLES + [0, -1, 10 ** 30 + 1]:
            self.refuses(BadExtent(), greatest_upto, SHORT, 6, thing)
            self.refuses(BadExtent(), quiet_extents(SHORT, 0, ratio(5)).holds, thing)


class GreatestTest(Case):
    def test_small_extents(self):
        source = seeded(79)
        patterns = small_patterns(4) + [random_pattern(source) for _ in range(60)]
        for pattern in patterns:
            for power in (0, 1, source.randint(2, 6)):
                noises = noises_upto(pattern, power, 90)
                best = Reached((abs(noises[1]), 1), 1)
                for extent in range(1, 91):
                    if abs(noises[extent]) > best.amount[0]:
                        best = Reached((abs(noises[extent]), 1), extent)
                    told = greatest_upto(pattern, power, extent)
                    self.assertEqual(told, best)
                    self.assertIs(type(told), Reached)

    def test_peaks_amid_the_way(self):
        # noises that rise, fall through 0 and are then less deep than they were high
        pattern = Pattern((1,) * 7 + (-1,) * 9 + (1,) * 2)
        noises = noises_upto(pattern, 1, 200)
        for extent in range(1, 201):
            sizes = [abs(noise) for noise in noises[1:extent + 1]]
            self.assertEqual(greatest_upto(pattern, 1, extent), Reached((max(sizes), 1), sizes.index(max(sizes)) + 1))

    def test_large_extents(self):
        far = 10 ** 30
        self.assertEqual(greatest_upto(SHORT, 0, far), Reached((far // 3, 1), far - 1))
        self.assertEqual(greatest_upto(TURN, 0, far), Reached((1, 1), 1))
        self.assertEqual(greatest_upto(TURN, 1, far), Reached((far // 2, 1), far))
        self.assertEqual(greatest_upto(TURN, 1, far - 1), Reached((far // 2 - 1, 1), far - 2))
        self.assertEqual(greatest_upto(Pattern((1,)), 3, far), Reached(((far * (far - 1) // 2) ** 2, 1), far))

    def test_results(self):
        told = ["as given"]
        self.assertIs(QuietExtents(1, told).rows, told)
        self.assertEqual(vars(QuietExtents(period=1, rows=2)), {"period": 1, "rows": 2})
        self.assertEqual(vars(Reached(amount=1, extent=2)), {"amount": 1, "extent": 2})
        for one, other in ((QuietExtents(1, ()), QuietExtents(2, ())), (QuietExtents(1, ()), QuietExtents(1, 0)),
                           (Reached(1, 2), Reached(1, 3)), (Reached(1, 2), Reached(2, 2)), (Reached(1, 2), (1, 2)),
                           (QuietExtents(1, 2), Reached(1, 2))):
            self.assertNotEqual(one, other)


if __name__ == "__main__":
    unittest.main()
