"""Point 10.5: the hushed words nearest to a word."""

import unittest

from hushedwires.errors import BadWord, OtherLine, TooMany
from hushedwires.lines import Line
from hushedwires.listing import least_crossed
from hushedwires.nearest import Nearest, nearest_hushed
from hushedwires.spans import Span, degree_span
from tests.arms import small_span
from tests.reckon import (
    WRONG_WHOLES, Case, all_words, crossings, long_ratio, no_rows, noise, random_line, random_word, ratios, seeded)


class NearestTest(Case):
    def check(self, line, word, span):
        hushed = [other for other in all_words(len(line)) if not any(noise(line, other, hum) for hum in span.hums)]
        told = nearest_hushed(line, word, span)
        if not hushed:
            self.assertIsNone(told)
            return 0
        poles = {other: len(set(crossings(word)) ^ set(crossings(other))) for other in hushed}
        least = min(poles.values())
        self.assertEqual(told, Nearest(least, tuple(other for other in hushed if poles[other] == least)))
        self.assertIs(type(told), Nearest)
        if not crossings(word):
            self.assertEqual(told.many, len(crossings(least_crossed(line, span))))
            self.assertEqual(told.words[0], least_crossed(line, span))
        return len(told.words)

    def test_all_words(self):
        for count in range(1, 7):
            line = Line.even(count)
            for word in all_words(count):
                for degree in (1, 2, 3):
                    self.check(line, word, degree_span(line, degree))

    def test_drawn_spans(self):
        source = seeded(128)
        many = []
        for _ in range(250):
            line = source.choice((Line.even(source.randint(1, 9)), random_line(source, source.randint(1, 8))))
            word = source.choice((random_word(source, len(line)), (1,) * len(line)))
            span = source.choice((small_span(source, len(line)), degree_span(line, 1)))
            many.append(self.check(line, source.choice((list, tuple))(word), span))
        self.assertGreater(many.count(0), 10)
        self.assertGreater(sum(one > 1 for one in many), 8)

    def test_longest_line(self):
        line, source = Line.even(12), seeded(129)
        self.assertGreater(self.check(line, (1, -1) * 6, degree_span(line, 2)), 0)
        self.assertEqual(self.check(line, (1,) * 12, Span([[long_ratio(source) for _ in range(12)]])), 0)
        # all words: the word itself is the nearest one
        self.assertEqual(nearest_hushed(line, (1, -1) * 6, Span([ratios(*[0] * 12)])), Nearest(0, ((1, -1) * 6,)))

    def test_refuses(self):
        line, span = Line.even(3), degree_span(Line.even(3), 1)
        for thing in no_rows() + [[], (1, 1), (1,) * 4]:
            self.refuses(BadWord(0, "many"), nearest_hushed, line, thing, degree_span(Line.even(2), 1))
        for thing in WRONG_WHOLES + [0]:
            self.refuses(BadWord(2, "sign"), nearest_hushed, line, (-1, 1, thing), span)
        self.refuses(BadWord(0, "first"), nearest_hushed, line, (-1, 1, 1), span)
        self.refuses(OtherLine(), nearest_hushed, line, (1, 1, 1), degree_span(Line.even(2), 1))
        self.refuses(OtherLine(), nearest_hushed, Line.even(13), (1,) * 13, span)
        self.refuses(TooMany(12), nearest_hushed, Line.even(13), (1,) * 13, degree_span(Line.even(13), 1))

    def test_result(self):
        self.assertEqual(vars(Nearest(many=1, words=2)), {"many": 1, "words": 2})
        for other in (Nearest(1, 3), Nearest(2, 2), (1, 2)):
            self.assertNotEqual(Nearest(1, 2), other)


if __name__ == "__main__":
    unittest.main()
