"""Points 7.9 and 7.10: the greatest noises of repeated words where steps are 1."""

import time
import unittest

from hushedwires.errors import BadExtent
from hushedwires.limits import Limits
from hushedwires.lines import Line
from hushedwires.loudest import Endless, greatest_noise
from hushedwires.patterns import Pattern
from hushedwires.ties import steps_noise, tied_noise
from tests.reckon import WRONG_WHOLES, Case, fraction, ratio, seeded
from tests.test_forms import random_pattern
from tests.test_patterns import long_word, small_patterns


def sums_of(word):
    sums = [0]
    for sign in word:
        sums.append(sums[-1] + sign)
    return sums


def right_steps(word):
    sums = sums_of(word)
    return ratio(sum(map(abs, sums))) if sums[-1] == 0 else None


def right_tied(word):
    sums = sums_of(word)
    return ratio(sum(abs(sums[-1] - one) for one in sums[:-1]))


class TiesTest(Case):
    def test_examples(self):
        short = Pattern((1, -1, -1))
        self.assertEqual(steps_noise(short, 4), ratio(2))
        self.assertIsNone(steps_noise(short, 3))
        self.assertEqual(tied_noise(short, 3), ratio(4))

    def test_against_limits(self):
        for pattern in small_patterns(4):
            for extent in range(1, 13):
                line, word = Line.even(extent), pattern.word_at(extent)
                free = Limits.alike(extent, None, (1, 1))
                told = greatest_noise(line, word, free)
                self.assertEqual(steps_noise(pattern, extent), None if isinstance(told, Endless) else told.amount)
                self.assertEqual(tied_noise(pattern, extent), greatest_noise(line, word, free.with_most(0, (1, 1))).amount)

    def test_against_sections(self):
        source = seeded(79)
        ended = 0
        for _ in range(150):
            pattern = random_pattern(source)
            for extent in [source.randint(1, 150) for _ in range(6)] + [1, 2, pattern.period, 2 * pattern.period]:
                word = long_word(pattern, extent)
                told, tied = steps_noise(pattern, extent), tied_noise(pattern, extent)
                self.assertEqual(told, right_steps(word))
                self.assertEqual(tied, right_tied(word))
                self.assertRatio(tied)
                self.assertGreaterEqual(2 * fraction(tied), extent)
                if told is not None:
                    self.assertRatio(told)
                    self.assertEqual(told, tied)
                    ended += 1
        self.assertGreater(ended, 200)

    def test_large_extents(self):
        far = 10 ** 30
        start = time.monotonic()
        self.assertEqual(steps_noise(Pattern((1, -1)), far), ratio(far // 2))
        self.assertIsNone(steps_noise(Pattern((1, -1)), far - 1))
        self.assertEqual(steps_noise(Pattern((1, 1, -1, -1)), far), ratio(far))
        self.assertIsNone(steps_noise(Pattern((1,)), far))
        self.assertEqual(tied_noise(Pattern((1,)), far), ratio(far * (far + 1) // 2))
        self.assertEqual(tied_noise(Pattern((1, -1)), far), ratio(far // 2))
        # 10 ** 30 = 3 * many + 1: at the end the sum is 1 - many, at the three rests -k, 1 - k, -k
        many = (far - 1) // 3
        right = sum((many - 1) * many // 2 for _ in range(2)) + many * (many + 1) // 2 + 1
        self.assertEqual(tied_noise(Pattern((1, -1, -1)), far), ratio(right))
        for period in range(1, 25):
            tied_noise(Pattern((1,) * period), far)
        self.assertLess(time.monotonic() - start, 5)

    def test_refuses(self):
        for call in (steps_noise, tied_noise):
            for thing in WRONG_WHOLES + [0, -1, 10 ** 30 + 1]:
                self.refuses(BadExtent(), call, Pattern((1, -1)), thing)


if __name__ == "__main__":
    unittest.main()
