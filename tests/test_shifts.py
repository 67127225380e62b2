"""Points 9.5 to 9.7 and 9.13: shifts that hush several words, and shares that show that there are none."""

import time
import unittest
from fractions import Fraction

from hushedwires.errors import BadSlack, BadWords
from hushedwires.lines import Line
from hushedwires.shifts import (
    Fixed, Hushing, Least, hushing_fault, hushing_shifts, least_slack, slack_fault)
from tests.reckon import (
    WRONG_RATIOS, Case, all_words, fraction, fractions, line_from, long_ratio, no_rows, noise, random_line, random_word,
    ratio, ratios, seeded)
from tests.test_slacks import random_slacks, shifted_noise

EVEN = Line.even(4)
LONE, BOTH = [(1, 1, 1, -1)], [(1, 1, 1, -1), (1, 1, -1, 1)]


def level(line, word):
    return noise(line, word, ratios(*[1] * len(line)))


def weighed_level(line, words, shares):
    return sum(share * level(line, word) for share, word in zip(fractions(shares), words))


def weighed_turns(words, shares):
    """At each pole the sum of the shares times the sign before less the sign behind."""
    return [sum(share * (word[pole - 1] - word[pole]) for share, word in zip(fractions(shares), words))
            for pole in range(1, len(words[0]))]


def hushes(line, words, shifts):
    return not any(shifted_noise(line, word, ratios(*[1] * len(line)), shifts) for word in words)


def right_hushing(line, words, slacks, told):
    """Whether told is right, by its own sums."""
    if isinstance(told, Hushing):
        return (all(abs(shift) <= slack for shift, slack in zip(fractions(told.shifts), fractions(slacks)))
                and hushes(line, words, told.shifts))
    reach = sum(slack * abs(one) for slack, one in zip(fractions(slacks), weighed_turns(words, told.shares)))
    return weighed_level(line, words, told.shares) > reach


def right_least(line, words, told):
    turns = sum(abs(one) for one in weighed_turns(words, told.shares))
    whole = weighed_level(line, words, told.shares)
    if isinstance(told, Fixed):
        return whole > 0 and turns == 0
    slack = fraction(told.slack)
    return (slack >= 0 and all(abs(shift) <= slack for shift in fractions(told.shifts))
            and hushes(line, words, told.shifts) and whole >= slack * turns and (slack == 0 or turns > 0))


def drawn_words(source, count):
    words = [random_word(source, count) for _ in range(source.randint(1, 3))]
    return words if source.random() < 0.8 else words[:1] * len(words)


class HushingTest(Case):
    def check(self, line, words, slacks):
        told = hushing_shifts(line, words, slacks)
        self.assertIn(type(told), (Hushing, Fixed))
        if isinstance(told, Hushing):
            self.assertRatios(told.shifts, len(line) - 1)
        else:
            self.assertRatios(told.shares, len(words))
        self.assertTrue(right_hushing(line, words, slacks, told))
        self.assertIsNone(hushing_fault(line, words, slacks, told))
        return type(told)

    def test_all_small_ones(self):
        seen = {Hushing: 0, Fixed: 0}
        for line in (Line.even(4), line_from([2, 1, 3, 2])):
            for slacks in (ratios(0, 0, 0), [(1, 2)] * 3, [(1, 3), (2, 3), (1, 3)]):
                words = all_words(4)
                for one in words:
                    for other in words:
                        for rest in ([], [(1, -1, -1, 1)], [(1, 1, -1, -1)]):
                            seen[self.check(line, [one, other] + rest, slacks)] += 1
        self.assertGreater(min(seen.values()), 50)

    def test_drawn_lines(self):
        source = seeded(113)
        seen = {Hushing: 0, Fixed: 0}
        for _ in range(300):
            line = random_line(source, source.choice((1, 2, 5, 9, 24, 24, 24)))
            words = drawn_words(source, len(line))
            seen[self.check(line, source.choice((list, tuple))(words), random_slacks(source, line, (0, 2, 3, 3)))] += 1
        self.assertGreater(min(seen.values()), 50)

    def test_words_that_hang_together(self):
        # the third word follows from what the others do at each pole
        source = seeded(114)
        for _ in range(100):
            line = random_line(source, 12)
            base = [random_word(source, 12) for _ in range(2)]
            third = tuple(one * other for one, other in zip(*base))
            words = base + [third]
            for one in (words, words[::-1], [base[0]] * 3, [base[0], base[0], base[1]]):
                self.check(line, one, random_slacks(source, line, (2, 3)))

    def test_edges(self):
        self.assertEqual(self.check(Line.even(1), [(1,)], []), Fixed)
        self.assertEqual(hushing_shifts(EVEN, [(1, -1, -1, 1)], ratios(0, 0, 0)), Hushing(ratios(0, 0, 0)))
        self.assertEqual(self.check(Line.even(2), [(1, -1), (1, 1)], ratios(1)), Fixed)
        self.assertEqual(self.check(Line.even(24), [(1,) * 24] * 3, [(1, 2)] * 23), Fixed)
        # just reached, and just missed
        self.assertEqual(self.check(line_from([2, 1]), [(1, -1)], [(1, 2)]), Hushing)
        self.assertEqual(self.check(line_from([2, 1]), [(1, -1)], [(499, 1000)]), Fixed)

    def test_long_numbers(self):
        source = seeded(115)
        start = time.monotonic()
        for _ in range(2):
            line = Line([long_ratio(source) for _ in range(24)], Line.even(24).marks)
            lengths = fractions(line.lengths)
            slacks = [ratio(min(one, other), 2) for one, other in zip(lengths, lengths[1:])]
            words = [random_word(source, 24) for _ in range(3)]
            self.check(line, words, slacks)
            self.assertTrue(right_least(line, words, least_slack(line, words)))
        self.assertLess(time.monotonic() - start, 60)

    def test_refuses(self):
        calls = [(hushing_shifts, [None]), (hushing_fault, [None, None]), (least_slack, []), (slack_fault, [None])]
        for call, more in calls:
            for thing in no_rows() + [[], LONE * 4]:
                self.refuses(BadWords(0, "many"), call, EVEN, thing, *more)
            for thing in no_rows() + [[], (1, 1, 1), (1, 1, 1, 1, 1), (-1, 1, 1, 1), (1, 1, 1, 0), (1, 1, 1, True)]:
                self.refuses(BadWords(1, "word"), call, EVEN, [(1, 1, 1, 1), thing, None], *more)
        for call, more in calls[:2]:
            more = more[1:]
            self.refuses(BadSlack(0, "many"), call, EVEN, LONE, ratios(0, 0), *more)
            self.refuses(BadSlack(3, "slack"), call, EVEN, LONE, [(9, 1), (9, 1), (-1, 1)], *more)
            self.refuses(BadSlack(1, "length"), call, EVEN, LONE, [(1, 2), (3, 4), (0, 1)], *more)


class HushingFaultTest(Case):
    slacks = ratios(0, 1, 0)

    def fault(self, told, words=((1, 1, 1, -1), (1, 1, -1, -1))):
        return hushing_fault(Line.even(4), words, self.slacks, told)

    def test_right(self):
        for form in (list, tuple):
            self.assertIsNone(self.fault(Fixed(form(ratios(1, 0)))))
            self.assertIsNone(self.fault(Fixed(form([(1, 3), (0, 1)]))))
            self.assertIsNone(self.fault(Hushing(form(ratios(0, 0, 0))), [(1, 1, -1, -1)]))
            self.assertIsNone(hushing_fault(line_from([2, 3]), [(1, -1)], [(1, 1)], Hushing(form([(1, 2)]))))

    def test_kind(self):
        for thing in (None, ratios(0, 0, 0), 5, "Hushing", Least((0, 1), ratios(0, 0, 0), ratios(1, 0))):
            self.assertEqual(self.fault(thing), "kind")

    def test_shifts(self):
        for thing in no_rows() + [[], ratios(0, 0), ratios(0, 0, 0, 0)] + [[(0, 1), (0, 1), one] for one in WRONG_RATIOS]:
            self.assertEqual(self.fault(Hushing(thing)), "shifts")

    def test_slack_and_noise(self):
        self.assertEqual(self.fault(Hushing(ratios(0, 0, -1))), "slack")
        self.assertEqual(self.fault(Hushing(((0, 1), (-1001, 1000), (0, 1)))), "slack")
        self.assertEqual(self.fault(Hushing(((1, 9), (0, 1), (0, 1))), [(1, 1, -1, -1)]), "slack")
        self.assertEqual(self.fault(Hushing(ratios(0, -1, 0))), "noise")
        self.assertEqual(self.fault(Hushing(ratios(0, 0, 0))), "noise")
        # hushed is the last word alone
        self.assertEqual(self.fault(Hushing(ratios(0, 0, 0)), [(1, 1, 1, -1), (1, 1, -1, -1)]), "noise")
        self.assertEqual(self.fault(Hushing(ratios(0, 0, 0)), [(1, 1, -1, -1), (1, 1, 1, -1)]), "noise")

    def test_shares(self):
        for thing in no_rows() + [[], ratios(1), ratios(1, 0, 0)] + [[(1, 1), one] for one in WRONG_RATIOS]:
            self.assertEqual(self.fault(Fixed(thing)), "shares")

    def test_sum(self):
        self.assertEqual(self.fault(Fixed(ratios(0, 0))), "sum")
        self.assertEqual(self.fault(Fixed(ratios(-1, 0))), "sum")
        self.assertEqual(self.fault(Fixed(ratios(0, 1))), "sum")
        # the first sum is 2, the second one 2: not greater
        self.assertEqual(self.fault(Fixed(ratios(1, 1))), "sum")
        self.assertIsNone(self.fault(Fixed(((1, 1), (9, 10)))))


class LeastTest(Case):
    def check(self, line, words):
        told = least_slack(line, words)
        self.assertIn(type(told), (Least, Fixed))
        self.assertRatios(told.shares, len(words))
        if isinstance(told, Least):
            self.assertRatio(told.slack)
            self.assertRatios(told.shifts, len(line) - 1)
        self.assertTrue(right_least(line, words, told))
        self.assertIsNone(slack_fault(line, words, told))
        return told

    def test_examples(self):
        told = self.check(EVEN, LONE)
        self.assertEqual((told.slack, told.shifts), ((1, 1), ratios(0, 0, -1)))
        told = self.check(EVEN, BOTH)
        self.assertEqual((told.slack, told.shifts), ((2, 1), ratios(0, -2, -1)))
        self.assertEqual(self.check(EVEN, [(1, 1, -1, -1)] * 3).slack, (0, 1))
        self.assertIs(type(self.check(EVEN, [(1, 1, 1, 1)])), Fixed)
        self.assertIs(type(self.check(EVEN, LONE + [(1, 1, -1, -1), (1, 1, 1, 1)])), Fixed)
        self.assertIs(type(self.check(Line.even(1), [(1,)] * 3)), Fixed)
        self.assertIs(type(self.check(line_from([2, 1]), [(1, -1)])), Least)

    def test_drawn_lines(self):
        source = seeded(116)
        seen = {Least: 0, Fixed: 0}
        for _ in range(300):
            line = random_line(source, source.choice((1, 2, 3, 5, 9, 24)))
            words = drawn_words(source, len(line))
            told = self.check(line, words)
            seen[type(told)] += 1
            self.compare(line, words, told)
        self.assertGreater(min(seen.values()), 30)

    def compare(self, line, words, told):
        """With one slack at all poles there are shifts just from the least slack on."""
        lengths = fractions(line.lengths)
        most = min([length if section in (0, len(lengths) - 1) else length / 2 for section, length in enumerate(lengths)])
        slacks = {Fraction(0), most, most / 3}
        if isinstance(told, Least):
            own = fraction(told.slack)
            slacks |= {slack for slack in (own, own * Fraction(99, 100), own + Fraction(1, 100)) if slack <= most}
        for slack in slacks:
            found = hushing_shifts(line, words, [ratio(slack)] * (len(line) - 1))
            self.assertIs(isinstance(found, Hushing), isinstance(told, Least) and fraction(told.slack) <= slack)

    def test_all_couples(self):
        line = line_from([2, 1, 1, 3])
        for one in all_words(4):
            for other in all_words(4):
                self.check(line, [one, other])


class SlackFaultTest(Case):
    def fault(self, told, words=LONE):
        return slack_fault(EVEN, words, told)

    def least(self, slack=(1, 1), shifts=ratios(0, 0, -1), shares=ratios(1)):
        return Least(slack, shifts, shares)

    def test_right(self):
        for form in (list, tuple):
            self.assertIsNone(self.fault(self.least(shifts=form(ratios(0, 0, -1)), shares=form([(1, 7)]))))
            self.assertIsNone(self.fault(Fixed(form(ratios(3))), [(1, 1, 1, 1)]))
        self.assertIsNone(self.fault(self.least((0, 1), ratios(0, 0, 0), ratios(0)), [(1, 1, -1, -1)]))
        self.assertIsNone(self.fault(self.least((0, 1), ratios(0, 0, 0), ratios(-5)), [(1, 1, -1, -1)]))

    def test_kind(self):
        for thing in (None, 5, ratios(1), Hushing(ratios(0, 0, -1)), (ratios(1), ratios(0, 0, -1), ratios(1))):
            self.assertEqual(self.fault(thing), "kind")

    def test_slack(self):
        for thing in WRONG_RATIOS + [(-1, 1)]:
            self.assertEqual(self.fault(self.least(slack=thing, shifts=None, shares=None)), "slack")

    def test_shifts_and_noise(self):
        for thing in no_rows() + [[], ratios(0, 0), ratios(0, 0, -1, 0)] + [[(0, 1), (0, 1), one] for one in WRONG_RATIOS]:
            self.assertEqual(self.fault(self.least(shifts=thing, shares=None)), "shifts")
        self.assertEqual(self.fault(self.least(shifts=ratios(2, 0, -1), shares=None)), "shifts")
        self.assertEqual(self.fault(self.least(slack=(99, 100))), "shifts")
        self.assertEqual(self.fault(self.least(shifts=ratios(0, 0, 1), shares=None)), "noise")
        self.assertEqual(self.fault(self.least(shifts=ratios(0, 0, 0), shares=None)), "noise")

    def test_shares_and_sum(self):
        for thing in no_rows() + [[], ratios(1, 0)] + [[one] for one in WRONG_RATIOS]:
            self.assertEqual(self.fault(self.least(shares=thing)), "shares")
            self.assertEqual(self.fault(Fixed(thing)), "shares")
        # greater than the least slack; shares that show nothing; the second sum 0 though the slack is above 0
        self.assertEqual(self.fault(self.least(slack=(3, 2))), "sum")
        self.assertEqual(self.fault(self.least(shares=ratios(-1))), "sum")
        self.assertEqual(self.fault(self.least(shares=ratios(0))), "sum")
        self.assertEqual(self.fault(Fixed(ratios(1))), "sum")
        self.assertEqual(self.fault(Fixed(ratios(-1)), [(1, 1, 1, 1)]), "sum")
        self.assertEqual(self.fault(Fixed(ratios(0)), [(1, 1, 1, 1)]), "sum")
        self.assertEqual(self.fault(Least((2, 1), ratios(0, -2, -1), ratios(1, 0)), BOTH), "sum")


class ResultsTest(Case):
    def test_results(self):
        told = [1]
        self.assertIs(Hushing(told).shifts, told)
        self.assertIs(Fixed(told).shares, told)
        self.assertEqual(vars(Hushing(shifts=1)), {"shifts": 1})
        self.assertEqual(vars(Fixed(shares=1)), {"shares": 1})
        self.assertEqual(vars(Least(slack=1, shifts=2, shares=3)), {"slack": 1, "shifts": 2, "shares": 3})
        self.assertEqual(Hushing(1), Hushing(1))
        self.assertEqual(Fixed(1), Fixed(1))
        self.assertEqual(Least(1, 2, 3), Least(1, 2, 3))
        for one, other in ((Hushing(1), Hushing(2)), (Fixed(1), Fixed(2)), (Hushing(1), Fixed(1)), (Fixed(1), Hushing(1)),
                           (Least(1, 2, 3), Least(0, 2, 3)), (Least(1, 2, 3), Least(1, 0, 3)),
                           (Least(1, 2, 3), Least(1, 2, 0)), (Least(1, 2, 3), (1, 2, 3))):
            self.assertNotEqual(one, other)


if __name__ == "__main__":
    unittest.main()
