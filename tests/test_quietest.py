"""Point 3.11: the quietest words."""

import unittest

from hushedwires.errors import BadCrossings, OtherLine, TooMany
from hushedwires.limits import Limits
from hushedwires.lines import Line
from hushedwires.loudest import greatest_noise
from hushedwires.quietest import Quiet, quietest_words
from tests.limited import is_endless, limits_from, random_limits, running, whole_hums, whole_limits
from tests.reckon import WRONG_WHOLES, Case, all_words, crossings, fraction, random_line, ratio, seeded


class QuietestTest(Case):
    def check(self, line, limits, most):
        told = quietest_words(line, limits, most)
        noises = {}
        for word in all_words(len(line)):
            if len(crossings(word)) <= most and not is_endless(line, word, limits, ()):
                noises[word] = fraction(greatest_noise(line, word, limits).amount)
        if not noises:
            self.assertIsNone(told)
            return None
        self.assertIs(type(told), Quiet)
        self.assertRatio(told.amount)
        least = min(noises.values())
        self.assertEqual(fraction(told.amount), least)
        self.assertEqual(told.words, tuple(word for word in noises if noises[word] == least))
        return told

    def test_small_lines(self):
        source = seeded(311)
        seen = []
        for _ in range(150):
            line = source.choice((random_line(source, source.randint(1, 6)), Line.even(source.randint(1, 6))))
            limits = random_limits(source, len(line), source.choice((0, 0.3, 0.9)))
            seen.append(self.check(line, limits, source.randint(0, 5)) is None)
        self.assertGreater(seen.count(True), 10)
        self.assertGreater(seen.count(False), 50)

    def test_by_whole_hums(self):
        source = seeded(312)
        for _ in range(40):
            limits = whole_limits(source, 3, 0)
            hums = whole_hums(limits, (), 2)
            noises = {word: max(sum(sign * entry for sign, entry in zip(word, hum)) for hum in hums)
                      for word in all_words(3)}
            least = min(noises.values())
            told = quietest_words(Line.even(3), limits, 2)
            self.assertEqual(told, Quiet(ratio(least), tuple(word for word in noises if noises[word] == least)))

    def test_without_mosts(self):
        line, limits = Line.even(6), Limits.alike(6, None, (1, 1))
        told = self.check(line, limits, 23)
        self.assertEqual(told.amount, ratio(3))
        for word in told.words:
            self.assertEqual(sum(abs(one) for one in running(line, word)), 3)
        self.assertIn((1, -1) * 3, told.words)
        self.assertEqual(told.words[-1], (1, -1, -1, 1, -1, 1))
        self.assertEqual(self.check(line, limits, 1).words, ((1, 1, 1, -1, -1, -1),))
        self.assertIsNone(self.check(line, limits, 0))
        self.assertIsNone(self.check(Line.even(5), Limits.alike(5, None, (1, 1)), 23))
        self.assertEqual(self.check(Line.even(1), limits_from([2], []), 0), Quiet(ratio(2), ((1,),)))

    def test_ten_sections(self):
        source = seeded(313)
        line = random_line(source, 10)
        self.check(line, random_limits(source, 10, 0), 23)
        told = self.check(Line.even(10), Limits.alike(10, None, (1, 1)), 9)
        self.assertEqual(told.amount, ratio(5))
        self.assertEqual(len(told.words), 16)

    def test_refuses(self):
        eleven, ten = Line.even(11), Line.even(10)
        self.refuses(TooMany(10), quietest_words, eleven, Limits.alike(10, None, None), None)
        self.refuses(TooMany(10), quietest_words, eleven, Limits.alike(11, None, None), 1)
        self.refuses(OtherLine(), quietest_words, ten, Limits.alike(11, None, None), None)
        for thing in WRONG_WHOLES + [-1, 24]:
            self.refuses(BadCrossings(), quietest_words, Line.even(2), Limits.alike(2, None, None), thing)

    def test_result(self):
        told = [(1,)]
        self.assertIs(Quiet(None, told).words, told)
        self.assertEqual(Quiet(1, told), Quiet(1, [(1,)]))
        for other in (Quiet(2, told), Quiet(1, ()), (1, told)):
            self.assertNotEqual(Quiet(1, told), other)


if __name__ == "__main__":
    unittest.main()
