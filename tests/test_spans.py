"""Points 2.3 to 2.5: spans and what is heard of them."""

import unittest
from fractions import Fraction

from hushedwires.errors import BadCount, BadDegree, BadShares, BadSpan, BadStretch, BadWord, OtherLine
from hushedwires.hums import mark_hum, stretch_hum
from hushedwires.lines import Line
from hushedwires.spans import (
    Heard, Span, check_span, degree_span, heard_by, hum_by_shares, is_hushed, noises_of, stretch_span)
from tests.reckon import (
    WRONG_RATIOS, WRONG_WHOLES, Case, all_words, fraction, fractions, line_from, no_rows, noise, random_line,
    random_ratio, random_word, ratio, ratios, seeded)


class SpanTest(Case):
    def test_kept(self):
        told = [list(ratios(1, 2)), ratios(0, 0)]
        span = Span(told)
        told[0][0] = (9, 1)
        told.append(ratios(1, 1))
        self.assertEqual(span.hums, (ratios(1, 2), ratios(0, 0)))
        self.assertTrue(all(type(hum) is tuple for hum in span.hums))
        self.assertEqual(span.sections, 2)
        self.assertEqual(len(span), 2)
        self.assertEqual(list(span), [ratios(1, 2), ratios(0, 0)])
        self.assertEqual([hum for hum in span for _ in span], [hum for hum in span.hums for _ in "ab"])

    def test_sizes(self):
        self.assertEqual(len(Span([ratios(1)])), 1)
        self.assertEqual(len(Span((ratios(1),) * 6)), 6)
        self.assertEqual(Span([ratios(*[1] * 24)]).sections, 24)

    def test_many(self):
        for thing in no_rows() + [[], (), [ratios(1)] * 7]:
            self.refuses(BadSpan(0, "many"), Span, thing)

    def test_hum(self):
        for thing in no_rows() + [[], ratios(*[1] * 25)] + [(one,) for one in WRONG_RATIOS]:
            self.refuses(BadSpan(0, "hum"), Span, [thing])
            self.refuses(BadSpan(1, "hum"), Span, [ratios(1), thing, thing])
        self.refuses(BadSpan(1, "hum"), Span, [ratios(1, 2), ratios(1)])
        self.refuses(BadSpan(2, "hum"), Span, [ratios(1, 2), ratios(1, 2), ratios(1, 2, 3)])
        self.refuses(BadSpan(0, "hum"), Span, [ratios(*[1] * 25), ratios(1)])

    def test_equal(self):
        self.assertEqual(Span([ratios(1, 2)]), Span((list(ratios(1, 2)),)))
        self.assertNotEqual(Span([ratios(1, 2), ratios(0, 1)]), Span([ratios(0, 1), ratios(1, 2)]))
        self.assertNotEqual(Span([ratios(1, 2)]), Span([ratios(1, 2), ratios(1, 2)]))
        self.assertFalse(Span([ratios(1)]) == (ratios(1),))
        self.assertFalse(Span([ratios(1)]) == None)  # noqa: E711

    def test_check_span(self):
        span = Span([ratios(1, 2)])
        self.assertEqual(check_span(Line.even(2), span), span)
        self.refuses(OtherLine(), check_span, Line.even(1), span)
        self.refuses(OtherLine(), check_span, Line.even(3), span)


class MadeSpansTest(Case):
    def test_degree_span(self):
        line = line_from([1, 2, 3], [-1, 0, Fraction(5, 2)])
        for degree in range(1, 7):
            span = degree_span(line, degree)
            self.assertEqual(span, Span([mark_hum(line, power) for power in range(degree)]))
        for thing in WRONG_WHOLES + [0, 7, -1]:
            self.refuses(BadDegree(thing), degree_span, line, thing)

    def test_stretch_span(self):
        for form in (list, tuple):
            made = stretch_span(5, form([form((0, 2)), (2, 5), [4, 5]]))
            self.assertEqual(made, Span([stretch_hum(5, 0, 2), stretch_hum(5, 2, 5), stretch_hum(5, 4, 5)]))
        self.assertEqual(len(stretch_span(24, [(0, 24)] * 6)), 6)
        self.assertEqual(stretch_span(1, [(0, 1)]), Span([ratios(1)]))

    def test_stretch_span_refuses(self):
        for thing in WRONG_WHOLES + [0, 25]:
            self.refuses(BadCount(), stretch_span, thing, None)
        for thing in no_rows() + [[], [(0, 1)] * 7]:
            self.refuses(BadStretch(), stretch_span, 3, thing)
        for thing in no_rows() + [(0,), (0, 1, 2), (1, 1), (2, 1), (0, 4), (-1, 1), (True, 2), (0, True), (0.0, 1)]:
            self.refuses(BadStretch(), stretch_span, 3, [(0, 1), thing])

    def test_hum_by_shares(self):
        span = Span([ratios(1, 2, 0), ratios(0, -1, 3)])
        for form in (list, tuple):
            made = hum_by_shares(span, form([(1, 2), (2, 1)]))
            self.assertEqual(made, ratios(Fraction(1, 2), -1, 6))
            self.assertIs(type(made), tuple)
        for thing in no_rows() + [[], ratios(1), ratios(1, 2, 3)]:
            self.refuses(BadShares(), hum_by_shares, span, thing)
        for thing in WRONG_RATIOS:
            self.refuses(BadShares(), hum_by_shares, span, [(1, 1), thing])


class HeardTest(Case):
    def test_heard(self):
        line = Line.even(4)
        span = degree_span(line, 3)
        self.assertEqual(noises_of(line, (1, -1, -1, 1), span), ratios(0, 0, 4))
        self.assertEqual(heard_by(line, [1, -1, -1, 1], span), Heard(2, (4, 1)))
        self.assertIsNone(heard_by(line, (1, -1, -1, 1), degree_span(line, 2)))
        self.assertIs(is_hushed(line, (1, -1, -1, 1), degree_span(line, 2)), True)
        self.assertIs(is_hushed(line, (1, -1, -1, 1), span), False)

    def test_on_small_lines(self):
        source = seeded(25)
        for _ in range(40):
            count = source.randint(1, 5)
            line = source.choice((random_line(source, count), Line.even(count)))
            span = Span([[ratio(source.randint(-1, 1)) for _ in range(count)] for _ in range(source.randint(1, 4))])
            for word in all_words(count):
                noises = [noise(line, word, hum) for hum in span.hums]
                self.assertEqual(fractions(noises_of(line, word, span)), noises)
                self.assertIs(is_hushed(line, word, span), not any(noises))
                heard = heard_by(line, word, span)
                if any(noises):
                    first = [number for number, one in enumerate(noises) if one][0]
                    self.assertEqual((heard.hum, heard.noise), (first, ratio(noises[first])))
                else:
                    self.assertIsNone(heard)

    def test_noise_of_a_sum(self):
        source = seeded(26)
        for _ in range(30):
            line = random_line(source, source.randint(1, 8))
            word = random_word(source, len(line))
            span = Span([[random_ratio(source) for _ in word] for _ in range(3)])
            shares = [random_ratio(source) for _ in range(3)]
            told = sum(fraction(one) * fraction(share) for one, share in zip(noises_of(line, word, span), shares))
            self.assertEqual(noise(line, word, hum_by_shares(span, shares)), told)

    def test_refuses(self):
        line = Line.even(2)
        right, other = Span([ratios(1, 1)]), Span([ratios(1, 1, 1)])
        for call in (noises_of, heard_by, is_hushed):
            self.refuses(OtherLine(), call, line, (1, 1), other)
            self.refuses(BadWord(0, "many"), call, line, (1,), other)
            self.refuses(BadWord(1, "sign"), call, line, [1, True], right)
            self.refuses(BadWord(0, "first"), call, line, (-1, 1), right)

    def test_heard_is_a_result(self):
        self.assertEqual(Heard(1, (2, 1)), Heard(1, (2, 1)))
        self.assertNotEqual(Heard(1, (2, 1)), Heard(0, (2, 1)))
        self.assertNotEqual(Heard(1, (2, 1)), Heard(1, (3, 1)))
        self.assertFalse(Heard(1, (2, 1)) == (1, (2, 1)))
        told = ["as", "given"]
        self.assertIs(Heard(told, None).hum, told)


if __name__ == "__main__":
    unittest.main()
