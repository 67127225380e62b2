"""Points 3.6, 3.7 and 3.10: running sums, costs, spares and words that are never louder."""

import unittest
from fractions import Fraction
from itertools import product

from hushedwires.errors import BadHum, BadSums, BadValues, BadWord, Beyond, OtherLine
from hushedwires.limits import Clash, Limits, hum_through
from hushedwires.lines import Line
from hushedwires.loudest import Endless, Greatest, greatest_noise
from hushedwires.running import check_sums, never_louder, running_of, spare_parts, sums_cost
from tests.limited import (
    clash, cost, is_endless, is_within, limits_from, random_known, random_limits, running, whole_hums, whole_limits)
from tests.reckon import (
    WRONG_RATIOS, Case, all_words, fraction, fractions, line_from, long_ratio, no_rows, noise, random_line,
    random_ratio, random_word, ratio, ratios, seeded)

FREE = Limits.alike(2, None, None)


def random_sums(source, line, word, limits):
    """Sums that have a cost more often than not."""
    told = [Fraction(0)]
    at = running(line, word)
    for pole in range(1, len(line)):
        if limits.steps[pole - 1] is None and source.random() < 0.9:
            told.append(Fraction(0))
        elif limits.mosts[pole - 1] is None and source.random() < 0.9:
            told.append(told[-1] + at[pole] - at[pole - 1])
        else:
            told.append(fraction(random_ratio(source)))
    return told + [Fraction(0)]


class SumsTest(Case):
    def test_running_of(self):
        line = line_from([1, 2, Fraction(1, 2)])
        self.assertEqual(running_of(line, [1, -1, 1]), ratios(0, 1, -1, Fraction(-1, 2)))
        source = seeded(60)
        for count in range(1, 25):
            line, word = random_line(source, count), random_word(source, count)
            told = running_of(line, word)
            self.assertRatios(told, count + 1)
            self.assertEqual(fractions(told), running(line, word))

    def test_running_of_refuses(self):
        self.refuses(BadWord(0, "many"), running_of, Line.even(2), (1,))
        self.refuses(BadWord(1, "sign"), running_of, Line.even(2), (1, True))
        self.refuses(BadWord(0, "first"), running_of, Line.even(2), (-1, 1))

    def test_check_sums(self):
        for form in (list, tuple):
            told = check_sums(Line.even(3), form(ratios(0, 5, -1, 0)))
            self.assertEqual(told, ratios(0, 5, -1, 0))
            self.assertIs(type(told), tuple)
        self.assertEqual(check_sums(Line.even(1), ratios(0, 0)), ratios(0, 0))

    def test_check_sums_refuses(self):
        line = Line.even(2)
        calls = [check_sums, lambda line, sums: sums_cost(line, (1, 1), FREE, sums),
                 lambda line, sums: spare_parts(line, (1, 1), FREE, ratios(0, 0), sums)]
        for call in calls:
            for thing in no_rows() + [[], ratios(0, 0), ratios(0, 1, 1, 0)]:
                self.refuses(BadSums(0, "many"), call, line, thing)
            for thing in WRONG_RATIOS:
                self.refuses(BadSums(0, "sum"), call, line, [thing, thing, thing])
                self.refuses(BadSums(1, "sum"), call, line, [(0, 1), thing, (1, 1)])
                self.refuses(BadSums(2, "sum"), call, line, [(0, 1), (1, 1), thing])
                self.refuses(BadSums(0, "end"), call, line, [(1, 1), thing, thing])
            self.refuses(BadSums(0, "end"), call, line, ratios(1, 1, 1))
            self.refuses(BadSums(2, "end"), call, line, ratios(0, 1, -1))

    def test_sums_cost(self):
        source = seeded(61)
        seen = []
        for _ in range(400):
            line = random_line(source, source.randint(1, 6))
            word, limits = random_word(source, len(line)), random_limits(source, len(line))
            known = source.choice(((), random_known(source, len(line))))
            sums = random_sums(source, line, word, limits)
            told = sums_cost(line, list(word), limits, list(ratios(*sums)), known=known)
            right = cost(line, word, limits, sums, known)
            self.assertEqual(None if told is None else fraction(told), right)
            seen.append(right is None)
        self.assertGreater(seen.count(True), 50)
        self.assertGreater(seen.count(False), 50)

    def test_cost_of_known_sections(self):
        line, word = line_from([1, 2]), (1, -1)
        limits = limits_from([None, 3], [5])
        self.assertEqual(sums_cost(line, word, limits, ratios(0, 1, 0)), ratio(5 + 3))
        self.assertIsNone(sums_cost(line, word, limits, ratios(0, 0, 0)))
        self.assertEqual(sums_cost(line, word, limits, ratios(0, 0, 0), known=[(0, (-7, 1))]), ratio(-7 + 6))
        self.assertIsNone(sums_cost(line, word, limits_from([1, 1], [None]), ratios(0, 1, 0)))

    def test_order_of_errors(self):
        line, other = Line.even(2), Limits.alike(3, None, None)
        self.refuses(BadWord(0, "many"), sums_cost, line, (1,), other, None, known=5)
        self.refuses(OtherLine(), sums_cost, line, (1, 1), other, None, known=5)
        self.refuses(BadSums(0, "many"), sums_cost, line, (1, 1), FREE, None, known=5)
        self.refuses(BadValues(0, "many"), sums_cost, line, (1, 1), FREE, ratios(0, 0, 0), known=5)
        self.refuses(BadValues(0, "value"), sums_cost, line, (1, 1), FREE, ratios(0, 0, 0), known=[5])
        self.refuses(BadWord(0, "many"), spare_parts, line, (1,), other, None, None, known=5)
        self.refuses(OtherLine(), spare_parts, line, (1, 1), other, None, None, known=5)
        self.refuses(BadHum(0), spare_parts, line, (1, 1), FREE, None, None, known=5)
        self.refuses(BadHum(1), spare_parts, line, (1, 1), FREE, [(1, 1), 1], None, known=5)
        self.refuses(BadSums(0, "many"), spare_parts, line, (1, 1), FREE, ratios(0, 0), None, known=5)
        self.refuses(BadValues(0, "many"), spare_parts, line, (1, 1), FREE, ratios(0, 0), ratios(0, 0, 0), known=5)
        self.refuses(BadValues(1, "rising"), spare_parts, line, (1, 1), FREE, ratios(0, 0), ratios(0, 0, 0),
                     known=[(1, (1, 1)), (0, (0, 1))])


class SparesTest(Case):
    def test_spares(self):
        source = seeded(62)
        many = 0
        for _ in range(600):
            line = random_line(source, source.randint(1, 6))
            word, limits = random_word(source, len(line)), random_limits(source, len(line), 0.2)
            known = source.choice(((), random_known(source, len(line))))
            hum = hum_through(limits, known)
            if type(hum) is Clash:
                continue
            if source.random() < 0.5 and not known:
                hum = ratios(*[-entry for entry in fractions(hum)])
            sums = random_sums(source, line, word, limits)
            told = spare_parts(line, word, limits, list(hum), ratios(*sums), known=known)
            right = cost(line, word, limits, sums, known)
            if right is None:
                self.assertIsNone(told)
                continue
            many += 1
            self.assertRatios(told, 2 * len(line) - 1)
            self.assertGreaterEqual(min(fractions(told)), 0)
            self.assertEqual(sum(fractions(told)), right - noise(line, word, hum))
            self.check_each(line, word, limits, fractions(hum), sums, known, fractions(told))
        self.assertGreater(many, 100)

    def check_each(self, line, word, limits, hum, sums, known, told):
        values = dict(known)
        for section in range(len(line)):
            left = fraction(line.lengths[section]) * word[section] - (sums[section + 1] - sums[section])
            if section in values:
                part = fraction(values[section]) * left
            else:
                part = fraction(limits.mosts[section] or (0, 1)) * abs(left)
            self.assertEqual(told[section], part - left * hum[section])
        for pole in range(1, len(line)):
            part = fraction(limits.steps[pole - 1] or (0, 1)) * abs(sums[pole])
            self.assertEqual(told[len(line) + pole - 1], part - sums[pole] * (hum[pole - 1] - hum[pole]))

    def test_beyond(self):
        line, word, zeros = Line.even(3), (1, 1, 1), ratios(0, 0, 0, 0)
        limits = limits_from([1, None, 3], [None, 2])
        self.refuses(Beyond("most", 0), spare_parts, line, word, limits, ratios(2, 9, 4), zeros)
        self.refuses(Beyond("most", 2), spare_parts, line, word, limits, ratios(1, 9, 4), zeros)
        self.refuses(Beyond("step", 2), spare_parts, line, word, limits, ratios(1, 9, 3), zeros)
        known = [(0, (1, 1)), (1, (4, 1)), (2, (2, 1))]
        self.refuses(Beyond("step", 2), spare_parts, line, word, limits, ratios(0, 9, 3), zeros, known=known)
        self.refuses(Beyond("known", 0), spare_parts, line, word, limits, ratios(0, 4, 2), zeros, known=known)
        self.refuses(Beyond("known", 1), spare_parts, line, word, limits, ratios(1, 3, 1), zeros, known=known)
        self.refuses(Beyond("known", 2), spare_parts, line, word, limits, ratios(1, 4, 3), zeros, known=known)
        # the sums have no cost, as section 1 has no most and is not known
        self.assertIsNone(sums_cost(line, word, limits, zeros))
        self.assertIsNone(spare_parts(line, word, limits, ratios(1, 4, 3), zeros))


class NeverLouderTest(Case):
    def greatest(self, line, word, limits):
        """The greatest noise without mosts: None if endless."""
        if is_endless(line, word, limits, ()):
            return None
        return sum(fraction(step) * abs(one) for step, one in zip(limits.steps, running(line, word)[1:])
                   if step is not None)

    def test_both_sides(self):
        source = seeded(310)
        seen = []
        lines = [Line.even(6)]
        for _ in range(60):
            count = source.randint(1, 5)
            lines.append(source.choice((Line.even(count), random_line(source, count))))
        for line in lines:
            for word, other in product(all_words(len(line)), repeat=2):
                seen.append(self.check_couple(line, word, other))
        for kind in ((True, False, True), (True, True, True), (False, True, True), (False, True, False)):
            self.assertGreater(seen.count(kind), 5, kind)

    def check_couple(self, line, word, other):
        told = never_louder(line, list(word), list(other))
        sums, against = running(line, word), running(line, other)
        right = against[-1] != 0 or (sums[-1] == 0 and all(
            abs(one) <= abs(there) for one, there in zip(sums, against)))
        self.assertEqual(told is None, right)
        if told is not None:
            self.check_louder(line, word, other, told)
        return (told is None, against[-1] == 0, sums[-1] == 0)

    def check_louder(self, line, word, other, limits):
        self.assertIs(type(limits), Limits)
        self.assertEqual(limits.mosts, (None,) * len(line))
        loud, quiet = self.greatest(line, word, limits), self.greatest(line, other, limits)
        self.assertIsNotNone(quiet)
        self.assertTrue(loud is None or loud > quiet)
        told = greatest_noise(line, word, limits)
        self.assertIs(type(told), Endless if loud is None else Greatest)

    def test_none_is_right_for_all_steps(self):
        source = seeded(311)
        for _ in range(40):
            line = Line.even(4)
            for word, other in product(all_words(4), repeat=2):
                if never_louder(line, word, other) is None:
                    limits = Limits([None] * 4, whole_limits(source, 4).steps)
                    loud, quiet = self.greatest(line, word, limits), self.greatest(line, other, limits)
                    self.assertTrue(quiet is None or (loud is not None and loud <= quiet))

    def test_long(self):
        source = seeded(312)
        line = Line([long_ratio(source) for _ in range(24)], ratios(*range(24)))
        self.assertIsNone(never_louder(line, random_word(source, 24), random_word(source, 24)))
        self.assertIsNotNone(never_louder(Line.even(24), (1,) * 24, (1, -1) * 12))
        self.assertIsNone(never_louder(Line.even(24), (1, -1) * 12, (1,) * 12 + (-1,) * 12))
        self.assertIsNotNone(never_louder(Line.even(24), (1,) * 12 + (-1,) * 12, (1, -1) * 12))

    def test_refuses(self):
        self.refuses(BadWord(0, "many"), never_louder, Line.even(2), (1,), (-1, 1))
        self.refuses(BadWord(0, "first"), never_louder, Line.even(2), (-1, 1), (1,))
        self.refuses(BadWord(1, "sign"), never_louder, Line.even(2), (1, 1), (1, True))
        self.refuses(BadWord(0, "many"), never_louder, Line.even(2), (1, 1), (1, 1, 1))


class ReckoningTest(Case):
    def test_own_reckoning_agrees_with_itself(self):
        limits = limits_from([1, None], [1])
        self.assertTrue(all(is_within(hum, limits) for hum in whole_hums(limits, (), 3)))
        self.assertIsNone(clash(limits, [(0, (1, 1))]))


if __name__ == "__main__":
    unittest.main()
