"""Points 3.1 to 3.5: limits, known values and the greatest hum through them."""

import unittest
from fractions import Fraction

from hushedwires.errors import BadFactor, BadHum, BadLimits, BadValues, NoPole, NoSection, OtherLine
from hushedwires.limits import (
    Clash, Limits, check_known, check_limits, hum_through, let_more, let_same, tighten, within_limits)
from hushedwires.lines import Line
from tests.limited import (
    clash, is_within, limits_from, number_of, random_known, random_limits, tight_mosts, way, whole_hums, whole_limits)
from tests.reckon import (
    WRONG_RATIOS, WRONG_WHOLES, Case, fraction, fractions, long_ratio, no_rows, ratio, ratios, seeded)

WRONG_LIMITS = [thing for thing in WRONG_RATIOS if thing is not None] + [(-1, 1), (-1, 2)]


class LimitsTest(Case):
    def test_kept(self):
        mosts, steps = [(1, 1), None], [(1, 2)]
        limits = Limits(mosts, steps)
        mosts[0], steps[0] = None, None
        self.assertEqual(limits.mosts, ((1, 1), None))
        self.assertEqual(limits.steps, ((1, 2),))
        self.assertIs(type(limits.mosts), tuple)
        self.assertIs(type(limits.steps), tuple)
        self.assertEqual(len(limits), 2)
        self.assertEqual(len(Limits([(0, 1)], [])), 1)
        self.assertEqual(len(Limits([None] * 24, [(0, 1)] * 23)), 24)

    def test_refuses(self):
        for thing in no_rows() + [[], (), [None] * 25]:
            self.refuses(BadLimits(0, "mosts"), Limits, thing, None)
        for thing in WRONG_LIMITS:
            self.refuses(BadLimits(1, "most"), Limits, [None, thing, thing], None)
            self.refuses(BadLimits(0, "most"), Limits, [thing], [])
            self.refuses(BadLimits(1, "step"), Limits, [None] * 3, [None, thing])
            self.refuses(BadLimits(0, "step"), Limits, [None] * 3, [thing, thing])
        for thing in no_rows() + [[], [None], [None] * 3]:
            self.refuses(BadLimits(0, "steps"), Limits, [None] * 3, thing)
        self.refuses(BadLimits(0, "steps"), Limits, [None], [None])

    def test_equal(self):
        self.assertEqual(limits_from([1, None], [2]), Limits(((1, 1), None), ((2, 1),)))
        self.assertNotEqual(limits_from([1, None], [2]), limits_from([1, 0], [2]))
        self.assertNotEqual(limits_from([1, None], [2]), limits_from([1, None], [None]))
        for thing in (None, (((1, 1),), ()), 1):
            self.assertFalse(limits_from([1], []) == thing)

    def test_alike(self):
        self.assertEqual(Limits.alike(3, (1, 2), None), limits_from([Fraction(1, 2)] * 3, [None] * 2))
        self.assertEqual(Limits.alike(1, None, (0, 1)), limits_from([None], []))
        self.assertEqual(Limits.alike(24, (1, 1), (2, 1)), limits_from([1] * 24, [2] * 23))
        for thing in WRONG_WHOLES + [0, 25]:
            self.refuses(BadLimits(0, "mosts"), Limits.alike, thing, 1, 1)
        for thing in WRONG_LIMITS:
            self.refuses(BadLimits(0, "most"), Limits.alike, 3, thing, thing)
            self.refuses(BadLimits(0, "step"), Limits.alike, 3, (1, 1), thing)
            self.refuses(BadLimits(0, "step"), Limits.alike, 1, (1, 1), thing)

    def test_with_most(self):
        limits = limits_from([1, None, 3], [4, None])
        self.assertEqual(limits.with_most(1, (7, 2)), limits_from([1, Fraction(7, 2), 3], [4, None]))
        self.assertEqual(limits.with_most(2, None), limits_from([1, None, None], [4, None]))
        self.assertEqual(limits, limits_from([1, None, 3], [4, None]))
        for thing in WRONG_WHOLES + [-1, 3]:
            self.refuses(NoSection(thing), limits.with_most, thing, 5)
        for thing in WRONG_LIMITS:
            self.refuses(BadLimits(2, "most"), limits.with_most, 2, thing)

    def test_with_step(self):
        limits = limits_from([1, None, 3], [4, None])
        self.assertEqual(limits.with_step(2, (7, 2)), limits_from([1, None, 3], [4, Fraction(7, 2)]))
        self.assertEqual(limits.with_step(1, None), limits_from([1, None, 3], [None, None]))
        for thing in WRONG_WHOLES + [0, 3, -1]:
            self.refuses(NoPole(thing), limits.with_step, thing, 5)
        for thing in WRONG_LIMITS:
            self.refuses(BadLimits(1, "step"), limits.with_step, 2, thing)
        self.refuses(NoPole(1), limits_from([1], []).with_step, 1, None)

    def test_grown(self):
        limits = limits_from([1, None, 3], [4, None])
        self.assertEqual(limits.grown((3, 2)), limits_from([Fraction(3, 2), None, Fraction(9, 2)], [6, None]))
        self.assertEqual(limits.grown((0, 1)), limits_from([0, None, 0], [0, None]))
        for thing in WRONG_RATIOS + [(-1, 1)]:
            self.refuses(BadFactor(), limits.grown, thing)

    def test_both(self):
        one, other = limits_from([1, None, 3], [None, 2]), limits_from([2, 5, None], [None, 1])
        self.assertEqual(one.both(other), limits_from([1, 5, 3], [None, 1]))
        self.refuses(OtherLine(), one.both, limits_from([1], []))
        source = seeded(32)
        for _ in range(50):
            one, other = whole_limits(source, 3), whole_limits(source, 3)
            both = set(whole_hums(one, (), 3)) & set(whole_hums(other, (), 3))
            self.assertEqual(set(whole_hums(one.both(other), (), 3)), both)

    def test_backward(self):
        self.assertEqual(limits_from([1, None, 3], [4, None]).backward(), limits_from([3, None, 1], [None, 4]))

    def test_free(self):
        limits = limits_from([1, None, None, None, None], [4, None, None, 0])
        self.assertEqual(limits.free_poles, (0, 2, 3, 5))
        self.assertEqual(limits.free_stretches, ((2, 3), (3, 5)))
        self.assertEqual(limits_from([None], []).free_poles, (0, 1))
        self.assertEqual(limits_from([None], []).free_stretches, ((0, 1),))
        self.assertEqual(limits_from([0], []).free_stretches, ())
        self.assertEqual(Limits.alike(3, None, (1, 1)).free_stretches, ((0, 3),))
        self.assertEqual(Limits.alike(3, None, None).free_poles, (0, 1, 2, 3))

    def test_check_limits(self):
        limits = limits_from([1, None], [2])
        self.assertEqual(check_limits(Line.even(2), limits), limits)
        self.refuses(OtherLine(), check_limits, Line.even(3), limits)


class WithinTest(Case):
    def test_within(self):
        limits = limits_from([1, None, 3], [None, 2])
        self.assertIsNone(within_limits(list(ratios(-1, 5, 3)), limits))
        self.assertEqual(within_limits(ratios(2, 9, 4), limits), ("most", 0))
        self.assertEqual(within_limits(ratios(1, 9, -4), limits), ("most", 2))
        self.assertEqual(within_limits(ratios(1, 0, -3), limits), ("step", 2))
        self.assertEqual(within_limits(ratios(1, 0, 3), limits), ("step", 2))
        self.assertEqual(within_limits(ratios(0, 2, Fraction(5, 2)), limits_from([None] * 3, [1, 0])), ("step", 1))

    def test_is_what_the_point_says(self):
        source = seeded(33)
        for _ in range(300):
            limits = random_limits(source, source.randint(1, 4))
            hum = [Fraction(source.randint(-6, 6), source.randint(1, 3)) for _ in range(len(limits))]
            told = within_limits(ratios(*hum), limits)
            self.assertEqual(told is None, is_within(hum, limits))

    def test_refuses(self):
        limits = limits_from([1, None], [2])
        for thing in no_rows() + [ratios(1), ratios(1, 1, 1)]:
            self.refuses(BadHum(0), within_limits, thing, limits)
        for thing in WRONG_RATIOS:
            self.refuses(BadHum(1), within_limits, [(9, 1), thing], limits)


class TightenTest(Case):
    def test_example(self):
        told = tighten(limits_from([1, None, 9, None], [2, 3, None]))
        self.assertEqual(told, limits_from([1, 3, 6, None], [2, 3, None]))
        self.assertEqual(tighten(limits_from([1, 1], [5])), limits_from([1, 1], [2]))
        self.assertEqual(tighten(limits_from([0, None, 0], [9, None])), limits_from([0, 9, 0], [9, 9]))

    def test_each_number_is_met(self):
        source = seeded(34)
        for _ in range(80):
            limits = whole_limits(source, source.randint(1, 3))
            tight = tighten(limits)
            hums = whole_hums(limits, (), 7)
            self.assertEqual(hums, whole_hums(tight, (), 7))
            for section, most in enumerate(tight.mosts):
                greatest = max(hum[section] for hum in hums)
                self.assertEqual(greatest, 7 if most is None else fraction(most))
            for pole, step in enumerate(tight.steps, 1):
                greatest = max(hum[pole] - hum[pole - 1] for hum in hums)
                if step is None:
                    self.assertGreaterEqual(greatest, 7)
                else:
                    self.assertEqual(greatest, fraction(step))

    def test_is_what_the_point_says(self):
        source = seeded(35)
        for count in list(range(1, 25)) * 3:
            limits = random_limits(source, count)
            tight = tighten(limits)
            mosts = tight_mosts(limits)
            self.assertEqual([number_of(most) for most in tight.mosts], mosts)
            for pole in range(1, count):
                ends = [number_of(limits.steps[pole - 1])]
                if None not in mosts[pole - 1:pole + 1]:
                    ends.append(mosts[pole - 1] + mosts[pole])
                told = [end for end in ends if end is not None]
                self.assertEqual(number_of(tight.steps[pole - 1]), min(told) if told else None)
            self.assertTrue(is_within([most or 0 for most in mosts], limits))
            self.assertTrue(let_same(limits, tight))
            self.assertEqual(tighten(tight), tight)

    def test_let_same_and_more(self):
        source = seeded(36)
        seen = set()
        for _ in range(500):
            count = source.randint(1, 4)
            one, other = whole_limits(source, count), whole_limits(source, count)
            if source.random() < 0.5:
                other = source.choice((tighten(one), one.with_most(0, (2, 1)), one.both(other)))
            self.check_more(one, other, seen)
        self.assertEqual(len(seen), 4)

    def check_more(self, one, other, seen):
        told = [let_more(one, other), let_more(other, one)]
        for hum, first, second in ((told[0], one, other), (told[1], other, one)):
            tight = tighten(first)
            is_more = any(
                limit is not None and (entry is None or fraction(entry) > fraction(limit))
                for entry, limit in zip(tight.mosts + tight.steps, second.mosts + second.steps))
            self.assertEqual(hum is not None, is_more)
            if hum is None:
                reach = 3 if len(first) > 3 else 5
                self.assertTrue(all(is_within(row, second) for row in whole_hums(first, (), reach)))
            else:
                self.assertRatios(hum, len(one))
                self.assertTrue(is_within(fractions(hum), first))
                self.assertFalse(is_within(fractions(hum), second))
        self.assertIs(let_same(one, other), told == [None, None])
        self.assertIs(let_same(other, one), told == [None, None])
        seen.add((told[0] is None, told[1] is None))

    def test_let_more_on_long_lines(self):
        source = seeded(37)
        seen = set()
        for _ in range(200):
            count = source.randint(8, 24)
            one = random_limits(source, count, source.choice((0, 0.5, 0.9)))
            other = source.choice((tighten(one), one.grown((1, 2)), random_limits(source, count, 0.9)))
            hum = let_more(one, other)
            seen.add(hum is None)
            if hum is not None:
                self.assertTrue(is_within(fractions(hum), one))
                self.assertFalse(is_within(fractions(hum), other))
        self.assertEqual(len(seen), 2)

    def test_refuses(self):
        for call in (let_same, let_more):
            self.refuses(OtherLine(), call, limits_from([1], []), limits_from([1, 1], [1]))


class KnownTest(Case):
    limits = limits_from([1, None, 3], [None, 2])

    def test_check_known(self):
        for form in (list, tuple):
            told = check_known(self.limits, form([form((0, (9, 1))), form((2, (1, 2)))]))
            self.assertEqual(told, ((0, (9, 1)), (2, (1, 2))))
            self.assertEqual([type(thing) for thing in (told,) + told], [tuple] * 3)
        self.assertEqual(check_known(self.limits, []), ())

    def test_refuses(self):
        calls = [check_known, hum_through]
        for call in calls:
            for thing in no_rows() + [[(0, (1, 1))] * 4]:
                self.refuses(BadValues(0, "many"), call, self.limits, thing)
            for thing in no_rows() + [(0,), (0, (1, 1), 1), [], (3, (1, 1)), (-1, (1, 1)), ((1, 1), 0)]:
                self.refuses(BadValues(1, "value"), call, self.limits, [(0, (1, 1)), thing, thing])
            for thing in WRONG_WHOLES:
                self.refuses(BadValues(0, "value"), call, self.limits, [(thing, (1, 1))])
            for thing in WRONG_RATIOS:
                self.refuses(BadValues(0, "value"), call, self.limits, [(0, thing)])
            self.refuses(BadValues(1, "rising"), call, self.limits, [(1, (1, 1)), (1, (1, 1)), 5])
            self.refuses(BadValues(2, "rising"), call, self.limits, [(0, (1, 1)), (2, (1, 1)), (1, (1, 1))])
            self.refuses(BadValues(1, "value"), call, self.limits, [(1, (1, 1)), (0, 5)])

    def test_hum_through_examples(self):
        self.assertEqual(hum_through(self.limits, ()), ratios(1, 5, 3))
        self.assertEqual(hum_through(self.limits, [(2, (-3, 1))]), ratios(1, -1, -3))
        self.assertEqual(hum_through(Limits.alike(3, None, (1, 1)), ()), ratios(0, 0, 0))
        self.assertEqual(hum_through(Limits.alike(3, None, (1, 1)), [(1, (5, 1))]), ratios(6, 5, 6))
        self.assertEqual(hum_through(self.limits, [(0, (2, 1))]), Clash(0, 0))
        self.assertEqual(hum_through(self.limits, [(1, (3, 1)), (2, (0, 1))]), Clash(1, 2))
        self.assertEqual(hum_through(self.limits, [(0, (-1, 1)), (1, (3, 1)), (2, (4, 1))]), Clash(2, 2))
        alike = Limits.alike(4, None, (1, 1))
        self.assertEqual(hum_through(alike, [(0, (0, 1)), (1, (1, 1)), (3, (5, 1))]), Clash(0, 3))
        self.assertEqual(hum_through(alike, [(0, (0, 1)), (1, (2, 1)), (3, (5, 1))]), Clash(0, 1))

    def test_hum_through_small(self):
        source = seeded(38)
        seen = set()
        for _ in range(300):
            limits = whole_limits(source, source.randint(1, 3))
            known = random_known(source, len(limits), 3, 1)
            told = hum_through(limits, known)
            hums = whole_hums(limits, known, 8)
            self.assertEqual(type(told) is Clash, not hums)
            seen.add(type(told))
            if hums:
                for section, entry in enumerate(fractions(told)):
                    greatest = max(hum[section] for hum in hums)
                    # nothing can hold hums at 8 that do not reach a most, a step or a value below
                    self.assertEqual(entry, 0 if greatest == 8 else greatest)
        self.assertEqual(len(seen), 2)

    def test_hum_through_large(self):
        source = seeded(39)
        seen = set()
        for count in list(range(1, 25)) * 8:
            limits, known = random_limits(source, count, 0.4, 9), random_known(source, count)
            if count > 6:
                known = known[:source.randint(0, 3)]
            told = hum_through(limits, known)
            clashing = clash(limits, known)
            seen.add(type(told))
            if clashing is not None:
                self.assertIs(type(told), Clash)
                self.assertEqual((told.first, told.second), clashing)
                continue
            self.assertRatios(told, count)
            self.assertTrue(is_within(fractions(told), limits, known))
            self.check_greatest(limits, known, fractions(told))
        self.assertEqual(len(seen), 2)

    def check_greatest(self, limits, known, hum):
        # each entry is held by a most or a known value and the steps from there, or by nothing at all
        values = dict(known)
        for section, entry in enumerate(hum):
            ends = []
            for other in range(len(limits)):
                top = values.get(other, limits.mosts[other])
                between = way(limits, min(section, other), max(section, other))
                if top is not None and between is not None:
                    ends.append(fraction(top) + between)
            self.assertEqual(entry, min(ends) if ends else 0)

    def test_long_numbers(self):
        source = seeded(40)
        limits = Limits([long_ratio(source) for _ in range(24)], [long_ratio(source) for _ in range(23)])
        told = hum_through(limits, [(5, (1, 10 ** 299))])
        self.assertTrue(is_within(fractions(told), limits, [(5, (1, 10 ** 299))]))
        self.assertEqual([number_of(most) for most in tighten(limits).mosts], tight_mosts(limits))

    def test_clash_is_a_result(self):
        self.assertEqual(Clash(1, 2), Clash(1, 2))
        self.assertNotEqual(Clash(1, 2), Clash(1, 1))
        self.assertNotEqual(Clash(1, 2), Clash(2, 2))
        self.assertFalse(Clash(1, 2) == (1, 2))
        told = [ratio(1)]
        self.assertIs(Clash(told, None).first, told)


if __name__ == "__main__":
    unittest.main()
