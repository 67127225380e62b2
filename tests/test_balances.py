"""Points 2.9, 2.12, 2.13: lengths at which words are hushed."""

import unittest
from fractions import Fraction
from itertools import product

from hushedwires.balances import Balance, Loud, balance_fault, balance_of, hushing_lengths
from hushedwires.errors import BadLine, BadWord, OtherLine, TooMany
from hushedwires.lines import Line
from hushedwires.spans import Span, degree_span
from tests.reckon import (
    WRONG_RATIOS, Case, all_words, crossings, fraction, fractions, is_loud, line_from, long_ratio, no_rows, noise,
    order, random_word, ratio, ratios, seeded)


class BalanceTest(Case):
    def check(self, word, span):
        told = balance_of(word, span)
        if type(told) is Balance:
            self.assertRatios(told.lengths, len(word))
            lengths = fractions(told.lengths)
            self.assertGreater(min(lengths), 0)
            for hum in span.hums:
                self.assertEqual(sum(length * sign * entry for length, sign, entry
                                     in zip(lengths, word, fractions(hum))), 0)
        else:
            self.assertIs(type(told), Loud)
            self.assertRatios(told.shares, len(span))
            self.assertRatios(told.hum, len(word))
            for section in range(len(word)):
                self.assertEqual(fraction(told.hum[section]), sum(
                    fraction(share) * fraction(hum[section]) for share, hum in zip(told.shares, span.hums)))
            self.assertTrue(is_loud(word, told.hum))
        self.assertIsNone(balance_fault(word, span, told))
        return type(told)

    def test_example(self):
        told = balance_of([1, -1], Span([ratios(1, 2)]))
        self.assertIs(type(told), Balance)
        self.assertEqual(fraction(told.lengths[0]), 2 * fraction(told.lengths[1]))
        self.assertIsNone(balance_fault((1, -1), Span([ratios(1, 2)]), Balance(ratios(2, 1))))
        self.assertIs(type(balance_of((1, 1), Span([ratios(1, 2)]))), Loud)

    def test_all_small_spans(self):
        seen = []
        for entries in product((-1, 0, 1), repeat=6):
            span = Span([ratios(*entries[:3]), ratios(*entries[3:])])
            seen += [self.check(word, span) for word in all_words(3)]
        self.assertGreater(seen.count(Balance), 100)
        self.assertGreater(seen.count(Loud), 100)

    def test_exactly_one(self):
        # a balance makes the noise under each hum of the span 0, and under loud hums it is not
        source = seeded(12)
        for _ in range(60):
            count, many = source.randint(1, 5), source.randint(1, 3)
            span = Span([[ratio(source.randint(-2, 2)) for _ in range(count)] for _ in range(many)])
            word = random_word(source, count)
            loud = any(is_loud(word, [ratio(sum(share * fraction(hum[section]) for share, hum in zip(shares, span.hums)))
                                      for section in range(count)])
                       for shares in product(range(-4, 5), repeat=many))
            kind = self.check(word, span)
            if loud:
                self.assertIs(kind, Loud)

    def test_degrees(self):
        # a word is hushed for degree d at some lengths exactly if it has d crossings or more
        source = seeded(13)
        for count in range(1, 7):
            marks = sorted(source.sample(range(-9, 10), count))
            for word in all_words(count):
                for degree in (1, 2, 3):
                    span = degree_span(line_from([1] * count, marks), degree)
                    told = self.check(word, span)
                    self.assertIs(told, Balance if len(crossings(word)) >= degree else Loud)

    def test_largest(self):
        source = seeded(14)
        seen = []
        for _ in range(40):
            word = random_word(source, 8)
            span = Span([[ratio(source.randint(-3, 3)) for _ in range(8)] for _ in range(3)])
            seen.append(self.check(word, span))
        self.assertIn(Balance, seen)
        self.assertIn(Loud, seen)
        word = (1, -1) * 4
        long = [[long_ratio(source, 100) for _ in range(8)] for _ in range(3)]
        self.check(word, Span(long))
        self.check((1,) * 8, Span([[(-one[0], one[1]) for one in hum] for hum in long]))

    def test_alike_hums(self):
        self.check((1, -1, 1), Span([ratios(1, 2, 3)] * 3))
        self.check((1, 1, 1), Span([ratios(0, 0, 0)] * 2))
        self.check((1,), Span([ratios(1)]))
        self.check((1,), Span([ratios(0)]))
        self.check((1, -1), Span([ratios(1, 1), ratios(0, 0), ratios(-2, -2)]))

    def test_refuses(self):
        right = Span([ratios(*[1] * 8)] * 3)
        for thing in no_rows() + [[], (1,) * 25]:
            self.refuses(BadWord(0, "many"), balance_of, thing, right)
        self.refuses(BadWord(1, "sign"), balance_of, (1, True), right)
        self.refuses(BadWord(0, "first"), balance_of, (-1, 1), right)
        self.refuses(OtherLine(), balance_of, (1,) * 7, right)
        self.refuses(OtherLine(), balance_of, (1,) * 24, right)
        self.refuses(OtherLine(), balance_of, (1,) * 8, Span([ratios(*[1] * 9)] * 4))
        self.refuses(TooMany(8), balance_of, (1,) * 9, Span([ratios(*[1] * 9)] * 4))
        self.refuses(TooMany(8), balance_of, (1,) * 24, Span([ratios(*[1] * 24)]))
        self.refuses(TooMany(3), balance_of, (1,) * 8, Span([ratios(*[1] * 8)] * 4))
        self.refuses(TooMany(3), balance_of, (1,), Span([ratios(1)] * 6))
        self.assertIs(type(balance_of((1,) * 8, right)), Loud)


class BalanceFaultTest(Case):
    word, span = (1, -1, 1), Span([ratios(1, 2, 1), ratios(0, 1, 2)])

    def test_right(self):
        for form in (list, tuple):
            self.assertIsNone(balance_fault(form(self.word), self.span, Balance(form(ratios(3, 2, 1)))))
            loud = Span([ratios(1, -1, 0)])
            self.assertIsNone(balance_fault(self.word, loud, Loud(form(ratios(2)), form(ratios(2, -2, 0)))))
            self.assertIsNone(balance_fault(self.word, loud, Loud(form(ratios(-1)), form(ratios(-1, 1, 0)))))

    def test_told(self):
        for thing in (None, ratios(3, 2, 1), "Balance", 1, Balance):
            self.assertEqual(balance_fault(self.word, self.span, thing), "told")

    def test_lengths(self):
        for thing in no_rows() + [[], ratios(3, 2), ratios(3, 2, 1, 1), ratios(3, 2, 0), ratios(3, 2, -1)]:
            self.assertEqual(balance_fault(self.word, self.span, Balance(thing)), "lengths")
        for thing in WRONG_RATIOS:
            self.assertEqual(balance_fault(self.word, self.span, Balance([(3, 1), (2, 1), thing])), "lengths")

    def test_heard(self):
        self.assertEqual(balance_fault(self.word, self.span, Balance(ratios(1, 2, 1))), "heard")
        self.assertEqual(balance_fault(self.word, self.span, Balance(ratios(1, 1, 1))), "heard")

    def test_shares(self):
        span = Span([ratios(1, -1, 0)])
        for thing in no_rows() + [[], ratios(1, 1), [1], [(2, 2)]]:
            self.assertEqual(balance_fault(self.word, span, Loud(thing, ratios(1, -1, 0))), "shares")

    def test_hum(self):
        span = Span([ratios(1, -1, 0)])
        for thing in no_rows() + [[], ratios(1, -1), ratios(2, -2, 0), ratios(1, -1, 0, 0), [1, -1, 0]]:
            self.assertEqual(balance_fault(self.word, span, Loud(ratios(1), thing)), "hum")
        self.assertEqual(balance_fault(self.word, span, Loud(ratios(0), ratios(1, -1, 0))), "hum")

    def test_loud(self):
        self.assertEqual(balance_fault(self.word, self.span, Loud(ratios(1, 0), ratios(1, 2, 1))), "loud")
        self.assertEqual(balance_fault(self.word, self.span, Loud(ratios(0, 0), ratios(0, 0, 0))), "loud")

    def test_any_count(self):
        word, span = (1, -1) * 12, degree_span(Line.even(24), 6)
        self.assertEqual(balance_fault(word, span, Balance(ratios(*[1] * 24))), "heard")
        lengths = hushing_lengths(Line.even(24).marks, word)
        self.assertIsNone(balance_fault(word, span, Balance(lengths)))
        self.assertIsNone(balance_fault((1,) * 24, span, Loud(ratios(1, 0, 0, 0, 0, 0), ratios(*[1] * 24))))

    def test_results(self):
        self.assertEqual(Balance(ratios(1)), Balance(ratios(1)))
        self.assertNotEqual(Balance(ratios(1)), Balance(ratios(2)))
        self.assertEqual(Loud(ratios(1), ratios(2)), Loud(ratios(1), ratios(2)))
        self.assertNotEqual(Loud(ratios(1), ratios(2)), Loud(ratios(2), ratios(2)))
        self.assertNotEqual(Loud(ratios(1), ratios(2)), Loud(ratios(1), ratios(1)))
        self.assertFalse(Balance(ratios(1)) == Loud(ratios(1), ratios(1)))
        told = [1]
        self.assertIs(Balance(told).lengths, told)
        self.assertIs(Loud(told, None).shares, told)
        self.assertIs(Loud(None, told).hum, told)


class HushingLengthsTest(Case):
    def check(self, marks, word):
        lengths = hushing_lengths(marks, word)
        self.assertRatios(lengths, len(word))
        self.assertGreater(min(fractions(lengths)), 0)
        self.assertEqual(order(Line(lengths, marks), word), len(crossings(word)))

    def test_all_words(self):
        source = seeded(213)
        for count in range(1, 9):
            marks = ratios(*sorted(Fraction(one, 3) for one in source.sample(range(-20, 20), count)))
            for word in all_words(count):
                self.check(list(marks), list(word))
                self.check(marks, word)

    def test_longest(self):
        self.check(ratios(*range(24)), (1, -1) * 12)
        self.check(ratios(*range(24)), (1,) * 24)
        self.check(ratios(*[k * k - 100 for k in range(24)]), (1, 1, 1, -1, -1, 1) * 4)

    def test_noise_is_what_the_reckoning_says(self):
        line = Line(hushing_lengths(ratios(0, 1, 2, 3), (1, -1, -1, 1)), ratios(0, 1, 2, 3))
        self.assertEqual(noise(line, (1, -1, -1, 1), ratios(1, 1, 1, 1)), 0)

    def test_refuses(self):
        for thing in no_rows() + [[], ratios(*range(25))]:
            self.refuses(BadLine(0, "many"), hushing_lengths, thing, None)
        self.refuses(BadLine(1, "mark"), hushing_lengths, [(0, 1), 1], None)
        self.refuses(BadLine(1, "rising"), hushing_lengths, ratios(1, 1), None)
        self.refuses(BadWord(0, "many"), hushing_lengths, ratios(1, 2), None)
        self.refuses(BadWord(1, "sign"), hushing_lengths, ratios(1, 2), (1, 0, 1))
        self.refuses(BadWord(0, "first"), hushing_lengths, ratios(1, 2), (-1, 1, 1))
        self.refuses(BadWord(0, "many"), hushing_lengths, ratios(1, 2), (1, 1, 1))
        self.refuses(BadWord(0, "many"), hushing_lengths, ratios(1, 2), (1,))


if __name__ == "__main__":
    unittest.main()
