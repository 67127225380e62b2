"""Points 3.8 and 3.9: the greatest noise and its judges."""

import unittest
from fractions import Fraction

from hushedwires.errors import BadValues, BadWord, OtherLine
from hushedwires.limits import Clash, Limits
from hushedwires.lines import Line
from hushedwires.loudest import Endless, Greatest, endless_fault, greatest_fault, greatest_noise
from hushedwires.ratios import make_ratio
from tests.limited import (
    clash, cost, is_endless, is_within, limits_from, number_of, random_known, random_limits, running, whole_hums,
    whole_limits)
from tests.reckon import (
    WRONG_RATIOS, Case, all_words, fraction, fractions, line_from, long_number, long_ratio, no_rows, noise,
    random_line, random_word, ratio, ratios, seeded)


class GreatestNoiseTest(Case):
    def check(self, line, word, limits, known=()):
        """What the point says of the answer, reckoned anew; the answer's kind is returned."""
        told = greatest_noise(line, word, limits, known=known)
        clashing = clash(limits, known)
        if clashing is not None:
            self.assertIs(type(told), Clash)
            self.assertEqual((told.first, told.second), clashing)
        elif is_endless(line, word, limits, known):
            self.assertIs(type(told), Endless)
            self.check_endless(line, word, limits, known, told)
        else:
            self.assertIs(type(told), Greatest)
            self.check_greatest(line, word, limits, known, told)
        return told

    def check_endless(self, line, word, limits, known, told):
        self.assertRatios(told.hum, len(line))
        hum = fractions(told.hum)
        self.assertGreater(noise(line, word, told.hum), 0)
        for section in range(len(line)):
            if limits.mosts[section] is not None or section in dict(known):
                self.assertEqual(hum[section], 0)
            if section and limits.steps[section - 1] is not None:
                self.assertEqual(hum[section], hum[section - 1])
        self.assertIsNone(endless_fault(line, word, limits, told, known=known))

    def check_greatest(self, line, word, limits, known, told):
        # a hum within limits as loud as some sums cost: nothing allowed is louder, no sums cost less
        self.assertRatio(told.amount)
        self.assertRatios(told.hum, len(line))
        self.assertRatios(told.sums, len(line) + 1)
        self.assertTrue(is_within(fractions(told.hum), limits, known))
        self.assertEqual(noise(line, word, told.hum), fraction(told.amount))
        sums = fractions(told.sums)
        self.assertEqual((sums[0], sums[-1]), (0, 0))
        self.assertEqual(cost(line, word, limits, sums, known), fraction(told.amount))
        self.assertIsNone(greatest_fault(line, word, limits, told, known=known))

    def test_examples(self):
        line, word = Line.even(4), [1, -1, -1, 1]
        self.assertEqual(self.check(line, word, Limits.alike(4, (2, 1), None)).amount, ratio(8))
        self.assertEqual(self.check(line, word, Limits.alike(4, None, (1, 2))).amount, ratio(1))
        self.assertEqual(self.check(line, word, Limits.alike(4, (0, 1), (1, 2))).amount, ratio(0))
        self.assertIs(type(self.check(line, (1, 1, 1, 1), Limits.alike(4, None, (1, 1)))), Endless)
        self.assertEqual(self.check(line, word, Limits.alike(4, (2, 1), None), [(0, (-5, 1))]), Clash(0, 0))
        self.assertEqual(self.check(line, word, Limits.alike(4, (2, 1), None), [(0, (-2, 1))]).amount, ratio(4))

    def test_whole_hums_are_never_louder(self):
        source = seeded(380)
        seen = {}
        for _ in range(400):
            line, limits = Line.even(source.randint(1, 4)), None
            limits = whole_limits(source, len(line), source.choice((0.1, 0.4)))
            known = tuple((section, (value[0], 1)) for section, value in random_known(source, len(line), 2, 1))
            if source.random() < 0.5:
                known = ()
            word = random_word(source, len(line))
            told = self.check(line, word, limits, known)
            seen[type(told)] = seen.get(type(told), 0) + 1
            if len(line) > 3 and None in limits.mosts:
                continue
            hums = whole_hums(limits, known, 8)
            noises = [sum(sign * entry for sign, entry in zip(word, hum)) for hum in hums]
            if type(told) is Clash:
                self.assertEqual(hums, [])
            elif type(told) is Greatest:
                self.assertEqual(ratio(max(noises)), told.amount)
                negated = tuple((section, (-value[0], 1)) for section, value in known)
                least = greatest_noise(line, word, limits, known=negated)
                self.assertEqual(min(noises), -fraction(least.amount))
        for kind in (Clash, Endless, Greatest):
            self.assertGreater(seen[kind], 20)

    def test_all_small_limits(self):
        for most in (None, 0, 1):
            for step in (None, 0, 1):
                for other in (None, 0, Fraction(1, 2)):
                    for word in all_words(3):
                        limits = limits_from([most, other, most], [step, other])
                        self.check(line_from([1, 2, 1]), word, limits)
                        self.check(line_from([1, 1, 2]), word, limits, ((1, (1, 3)),))
                        self.check(line_from([1, 1, 2]), word, limits, ((0, (0, 1)), (2, (0, 1))))

    def test_many_lines(self):
        source = seeded(381)
        seen = {}
        for _ in range(900):
            line = random_line(source, source.randint(1, 9))
            limits = random_limits(source, len(line), source.choice((0, 0.2, 0.5)))
            known = random_known(source, len(line)) if source.random() < 0.5 else ()
            kind = type(self.check(line, random_word(source, len(line)), limits, known))
            seen[kind] = seen.get(kind, 0) + 1
        for kind in (Clash, Endless, Greatest):
            self.assertGreater(seen[kind], 50)

    def test_below_zero(self):
        told = self.check(Line.even(1), (1,), limits_from([3], []), [(0, (-2, 1))])
        self.assertEqual(told.amount, ratio(-2))
        told = self.check(Line.even(3), (1, 1, 1), Limits.alike(3, None, (1, 1)), [(1, (-9, 1))])
        self.assertEqual(told.amount, ratio(-25))

    def test_longest_lines(self):
        source = seeded(382)
        for _ in range(25):
            line = random_line(source, 24)
            limits = random_limits(source, 24, source.choice((0, 0.1, 0.3)), 9, 7)
            self.check(line, random_word(source, 24), limits)
            value = limits.mosts[12]
            if value is not None:
                self.check(line, random_word(source, 24), limits, [(12, (0, 1))])

    def test_many_figures(self):
        source = seeded(383)
        line = Line([long_ratio(source) for _ in range(24)], ratios(*range(24)))
        limits = Limits([long_ratio(source) for _ in range(24)], [long_ratio(source) for _ in range(23)])
        self.check(line, random_word(source, 24), limits)
        known = [(section, make_ratio(source.choice((1, -1)), long_number(source))) for section in (0, 7, 20)]
        self.check(line, random_word(source, 24), limits, known)
        free = limits.with_step(5, None).with_step(9, None)
        for section in range(5, 9):
            free = free.with_most(section, None)
        self.assertIs(type(self.check(line, random_word(source, 24), free)), Endless)

    def test_own_sums_of_the_point(self):
        # some least sums have each entry A[k] - A[j]: here they are looked for one by one
        source = seeded(384)
        for _ in range(40):
            line, word = random_line(source, 3), random_word(source, 3)
            limits = random_limits(source, 3, 0.2)
            told = greatest_noise(line, word, limits)
            if type(told) is not Greatest:
                continue
            sums = running(line, word)
            costs = [cost(line, word, limits, [0, sums[1] - one, sums[2] - other, 0], ())
                     for one in sums for other in sums]
            self.assertEqual(min(one for one in costs if one is not None), fraction(told.amount))

    def test_refuses(self):
        line, other, right = Line.even(2), Limits.alike(3, None, None), Limits.alike(2, None, None)
        greatest, endless = Greatest(ratio(0), ratios(0, 0), ratios(0, 0, 0)), Endless(ratios(0, 0))
        calls = [greatest_noise,
                 lambda line, word, limits, **named: greatest_fault(line, word, limits, greatest, **named),
                 lambda line, word, limits, **named: endless_fault(line, word, limits, endless, **named)]
        for call in calls:
            self.refuses(BadWord(0, "many"), call, line, (1,), other, known=5)
            self.refuses(BadWord(1, "sign"), call, line, (1, True), other, known=5)
            self.refuses(BadWord(0, "first"), call, line, (-1, 1), other, known=5)
            self.refuses(OtherLine(), call, line, (1, 1), other, known=5)
            for thing in no_rows():
                self.refuses(BadValues(0, "many"), call, line, (1, 1), right, known=thing)
            self.refuses(BadValues(0, "value"), call, line, (1, 1), right, known=[(2, (1, 1))])
            self.refuses(BadValues(1, "rising"), call, line, (1, 1), right, known=[(1, (1, 1)), (1, (1, 1))])
        self.assertRaises(TypeError, greatest_noise, line, (1, 1), right, ())


class GreatestFaultTest(Case):
    line, word = Line.even(3), (1, -1, 1)
    limits, known = limits_from([1, None, 2], [3, 1]), ((2, (2, 1)),)
    right = (ratio(2), ratios(1, 1, 2), ratios(0, 0, -1, 0))

    def fault(self, *told):
        return greatest_fault(self.line, list(self.word), self.limits, Greatest(*told), known=list(self.known))

    def test_right(self):
        amount, hum, sums = self.right
        self.assertEqual(greatest_noise(self.line, self.word, self.limits, known=self.known).amount, amount)
        self.assertIsNone(self.fault(amount, hum, sums))
        self.assertIsNone(self.fault(amount, hum, list(sums)))

    def test_amount(self):
        for thing in WRONG_RATIOS:
            self.assertEqual(self.fault(thing, None, None), "amount")

    def test_hum(self):
        amount, hum, sums = self.right
        for thing in no_rows() + [list(hum), hum[:2], hum + hum[:1], (), hum[:2] + (2,)]:
            self.assertEqual(self.fault(amount, thing, sums), "hum")
        self.assertEqual(self.fault(ratio(5), list(hum), None), "hum")

    def test_limits(self):
        amount, _, sums = self.right
        self.assertEqual(self.fault(amount, ratios(2, 1, 2), sums), "limits")
        self.assertEqual(self.fault(amount, ratios(1, Fraction(1, 2), 2), sums), "limits")
        self.assertEqual(self.fault(ratio(9), ratios(1, 0, 3), None), "limits")

    def test_known(self):
        self.assertEqual(self.fault(ratio(2), ratios(1, 1, 1), self.right[2]), "known")
        self.assertEqual(self.fault(ratio(9), ratios(1, 1, 1), None), "known")

    def test_noise(self):
        self.assertEqual(self.fault(ratio(1), self.right[1], self.right[2]), "noise")
        self.assertEqual(self.fault(ratio(2), ratios(0, 1, 2), None), "noise")

    def test_sums(self):
        amount, hum, sums = self.right
        for thing in no_rows() + [sums[:3], sums + sums[:1], (), sums[:3] + ratios(1), (0,) + sums[1:],
                                  [(0, 1), (0, 1), (-2, 2), (0, 1)], ratios(1, 0, -1, 0)]:
            self.assertEqual(self.fault(amount, hum, thing), "sums")

    def test_cost(self):
        amount, hum, _ = self.right
        self.assertEqual(self.fault(amount, hum, ratios(0, 0, 0, 0)), "cost")
        self.assertEqual(self.fault(amount, hum, ratios(0, 1, 0, 0)), "cost")
        self.assertEqual(self.fault(ratio(1), ratios(0, 1, 2), self.right[2]), "cost")

    def test_result(self):
        told = ["as", "given"]
        made = Greatest(told, 1, None)
        self.assertIs(made.amount, told)
        self.assertEqual(made, Greatest(["as", "given"], 1, None))
        for other in (Greatest([], 1, None), Greatest(told, 2, None), Greatest(told, 1, 1), told, None):
            self.assertNotEqual(made, other)


class EndlessFaultTest(Case):
    line, word = Line.even(5), (1, 1, -1, 1, 1)
    limits, known = limits_from([None, None, 0, None, None], [1, None, 0, None]), ((4, (7, 1)),)

    def fault(self, hum):
        return endless_fault(self.line, list(self.word), self.limits, Endless(hum), known=list(self.known))

    def test_right(self):
        self.assertIsNone(self.fault(ratios(1, 1, 0, 0, 0)))
        self.assertIsNone(self.fault(ratios(Fraction(1, 9), Fraction(1, 9), 0, 0, 0)))

    def test_hum(self):
        hum = ratios(1, 1, 0, 0, 0)
        for thing in no_rows() + [list(hum), hum[:4], hum + ratios(0), (), hum[:4] + (0,)]:
            self.assertEqual(self.fault(thing), "hum")

    def test_limits(self):
        self.assertEqual(self.fault(ratios(1, 1, 1, 1, 0)), "limits")
        self.assertEqual(self.fault(ratios(2, 1, 0, 0, 0)), "limits")
        self.assertEqual(self.fault(ratios(-1, 1, 0, 0, 1)), "limits")
        self.assertEqual(self.fault(ratios(0, 0, 0, 1, 1)), "limits")

    def test_known(self):
        self.assertEqual(self.fault(ratios(1, 1, 0, 0, 1)), "known")
        self.assertEqual(self.fault(ratios(0, 0, 0, 0, -1)), "known")

    def test_noise(self):
        self.assertEqual(self.fault(ratios(0, 0, 0, 0, 0)), "noise")
        self.assertEqual(self.fault(ratios(-1, -1, 0, 0, 0)), "noise")

    def test_result(self):
        told = ["as", "given"]
        self.assertIs(Endless(told).hum, told)
        self.assertEqual(Endless(told), Endless(["as", "given"]))
        self.assertNotEqual(Endless(told), Endless(None))
        self.assertFalse(Endless(told) == told)
        self.assertIsNone(number_of(None))


if __name__ == "__main__":
    unittest.main()
