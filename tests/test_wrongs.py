"""Points 9.8 to 9.10 and 9.13: wrong poles, tests and readings."""

import time
import unittest
from fractions import Fraction
from itertools import combinations

from hushedwires.errors import (
    BadAmount, BadMost, BadPoles, BadReadings, BadTests, BadWord, NoLots)
from hushedwires.hums import noise_of
from hushedwires.lines import Line
from hushedwires.lots import in_each, is_part, lots_upto
from hushedwires.wrongs import (
    check_tests, lots_that_fit, read_tests, sure_right, sure_wrong, telling_hum, word_of_reading, wrong_lots, wrong_word)
from tests.reckon import (
    WRONG_RATIOS, WRONG_WHOLES, Case, all_words, crossings, fractions, long_ratio, no_rows, noise,
    random_line, random_ratio, random_word, ratio, ratios, seeded)

EVEN = Line.even(4)
WORD, LEVEL = (1, 1, -1, -1), ratios(1, 1, 1, 1)
WRONG_MOSTS = WRONG_WHOLES + [-1, 4]


def all_lots(count, most):
    return tuple(lot for many in range(most + 1) for lot in combinations(range(1, count), many))


def wrong(word, lot):
    """The word with its crossings changed at all poles of a lot."""
    crossed = set(crossings(word)) ^ set(lot)
    signs = [1]
    for pole in range(1, len(word)):
        signs.append(-signs[-1] if pole in crossed else signs[-1])
    return tuple(signs)


def readings_of(line, word, tests):
    return ratios(*[noise(line, word, hum) for hum in tests])


def drawn_tests(source, count, most=3):
    """Tests under which many lots have the same readings."""
    return [ratios(*[source.choice((0, 0, 1, 1, -1)) for _ in range(count)]) for _ in range(source.randint(1, most))]


class LotsTest(Case):
    def test_wrong_words(self):
        self.assertEqual(wrong_word(EVEN, WORD, [2]), (1, 1, 1, 1))
        self.assertEqual(wrong_word(EVEN, WORD, [3, 1]), (1, -1, 1, -1))
        self.assertEqual(wrong_word(EVEN, list(WORD), ()), WORD)
        for count in range(1, 6):
            line = Line.even(count)
            for word in all_words(count):
                for lot in all_lots(count, count):
                    told = wrong_word(line, word, lot[::-1])
                    self.assertEqual(told, wrong(word, lot))
                    self.assertEqual(set(crossings(told)) ^ set(crossings(word)), set(lot))
        for thing in no_rows()[:-1] + [[0], [4], [1, 1], [1, 2, 3, 3], [True], [1.0], None]:
            self.refuses(BadPoles(), wrong_word, EVEN, WORD, thing)
        self.refuses(BadWord(0, "many"), wrong_word, EVEN, (1, 1), None)

    def test_wrong_lots(self):
        self.assertEqual(wrong_lots(EVEN, 0), ((),))
        self.assertEqual(wrong_lots(EVEN, 2), ((), (1,), (2,), (3,), (1, 2), (1, 3), (2, 3)))
        self.assertEqual(wrong_lots(Line.even(1), 3), ((),))
        self.assertEqual(wrong_lots(Line.even(2), 3), ((), (1,)))
        for count in (1, 2, 3, 4, 5, 24):
            for most in range(4):
                self.assertEqual(wrong_lots(Line.even(count), most), all_lots(count, most))
        for thing in WRONG_MOSTS:
            self.refuses(BadMost(), wrong_lots, EVEN, thing)

    def test_helpers(self):
        self.assertEqual(lots_upto(0, 2, 3), ((), (0,), (1,), (2,), (0, 1), (0, 2), (1, 2), (0, 1, 2)))
        self.assertEqual(lots_upto(1, 0, 2), ((),))
        self.assertEqual(in_each(((1, 2, 3), (3, 1), (1, 3, 4))), (1, 3))
        self.assertEqual((in_each(()), in_each(((), (1,)))), ((), ()))
        self.assertIs(is_part((1,), (0, 1)), True)
        self.assertIs(is_part((1, 2), (1, 2)), False)
        self.assertIs(is_part((3,), (1, 2)), False)


class FitTest(Case):
    def test_example(self):
        self.assertEqual(lots_that_fit(EVEN, WORD, [LEVEL], ratios(4), 1), ((2,),))
        self.assertEqual(sure_wrong(EVEN, WORD, [LEVEL], ratios(4), 1), (2,))
        self.assertEqual(sure_right(EVEN, WORD, [LEVEL], ratios(4), 1), (1, 3))

    def test_check_and_read(self):
        source = seeded(117)
        for _ in range(60):
            line = random_line(source, source.randint(1, 24))
            tests = [[random_ratio(source) for _ in line.lengths] for _ in range(source.randint(1, 6))]
            word = random_word(source, len(line))
            self.assertEqual(check_tests(line, tests), tuple(map(tuple, tests)))
            self.assertEqual(read_tests(line, word, tuple(tests)), readings_of(line, word, tests))

    def test_drawn_readings(self):
        source = seeded(118)
        many = []
        for _ in range(200):
            line = source.choice((Line.even(source.randint(1, 8)), random_line(source, source.randint(1, 7))))
            word, most = random_word(source, len(line)), source.randint(0, 3)
            tests = drawn_tests(source, len(line))
            real = wrong(word, source.choice(all_lots(len(line), 3)))
            readings = readings_of(line, real, tests)
            if source.random() < 0.1:
                readings = readings[:-1] + (random_ratio(source),)
            right = tuple(lot for lot in all_lots(len(line), most)
                          if readings_of(line, wrong(word, lot), tests) == readings)
            given = (line, word, tests, source.choice((list, tuple))(readings), most)
            self.assertEqual(lots_that_fit(*given), right)
            many.append(len(right))
            if right:
                poles = range(1, len(line))
                self.assertEqual(sure_wrong(*given), tuple(pole for pole in poles if all(pole in lot for lot in right)))
                self.assertEqual(sure_right(*given), tuple(pole for pole in poles if not any(pole in lot for lot in right)))
            else:
                self.refuses(NoLots(), sure_wrong, *given)
                self.refuses(NoLots(), sure_right, *given)
        self.assertGreater(many.count(0), 20)
        self.assertGreater(sum(one > 1 for one in many), 30)

    def test_long_lines(self):
        source = seeded(119)
        start = time.monotonic()
        line = Line([long_ratio(source) for _ in range(24)], Line.even(24).marks)
        word = random_word(source, 24)
        tests = [[long_ratio(source) for _ in range(24)] for _ in range(6)]
        for lot in ((), (23,), (2, 5, 17)):
            self.assertEqual(lots_that_fit(line, word, tests, readings_of(line, wrong(word, lot), tests), 3), (lot,))
        telling = [telling_hum(line)]
        self.assertEqual(lots_that_fit(line, word, telling, readings_of(line, wrong(word, (1, 9)), telling), 3), ((1, 9),))
        self.assertLess(time.monotonic() - start, 60)

    def test_refuses(self):
        calls = [(check_tests, [], []), (read_tests, [WORD], [])]
        calls += [(call, [WORD], [None, None]) for call in (lots_that_fit, sure_wrong, sure_right)]
        for call, ahead, more in calls:
            for thing in no_rows() + [[], [LEVEL] * 7]:
                self.refuses(BadTests(0, "many"), call, EVEN, *ahead, thing, *more)
            for thing in no_rows() + [[], LEVEL[:3], LEVEL + LEVEL] + [LEVEL[:3] + (one,) for one in WRONG_RATIOS]:
                self.refuses(BadTests(1, "hum"), call, EVEN, *ahead, [LEVEL, thing, None], *more)
            if ahead:
                self.refuses(BadWord(0, "many"), call, EVEN, (1, 1), None, *more)
                self.refuses(BadWord(0, "first"), call, EVEN, (-1, 1, 1, 1), None, *more)
        for call, _, _ in calls[2:]:
            for thing in no_rows() + [[], ratios(1), ratios(1, 1, 1)]:
                self.refuses(BadReadings(0, "many"), call, EVEN, WORD, [LEVEL] * 2, thing, None)
            for thing in WRONG_RATIOS:
                self.refuses(BadReadings(1, "reading"), call, EVEN, WORD, [LEVEL] * 3, [(1, 1), thing, None], None)
            for thing in WRONG_MOSTS:
                self.refuses(BadMost(), call, EVEN, WORD, [LEVEL], ratios(3), thing)
        self.assertEqual(check_tests(EVEN, [LEVEL] * 6), (LEVEL,) * 6)
        for call in (sure_wrong, sure_right):
            self.refuses(NoLots(), call, EVEN, WORD, [LEVEL], [(1, 3)], 3)


class TellingHumTest(Case):
    def test_hums(self):
        source = seeded(120)
        for count in range(1, 9):
            line = random_line(source, count)
            hum = telling_hum(line)
            self.assertRatios(hum, count)
            self.assertEqual(fractions(hum), [Fraction(2 ** k) / length for k, length in enumerate(fractions(line.lengths))])
            readings = [noise(line, word, hum) for word in all_words(count)]
            self.assertEqual(len(set(readings)), len(readings))
            self.assertEqual(sorted(readings), [reading for reading in range(3 - 2 ** count if count > 1 else 1, 2 ** count, 4)])
            for word in all_words(count):
                self.assertEqual(word_of_reading(line, ratio(noise(line, word, hum))), word)
            for number in range(-2 ** count - 5, 2 ** count + 6):
                told = word_of_reading(line, (number, 1))
                self.assertIs(told is None, number not in readings)
            self.assertIsNone(word_of_reading(line, (1, 2)))
            self.assertIsNone(word_of_reading(line, (2 ** (count + 1) - 1, 2)))

    def test_longest_line(self):
        source = seeded(121)
        line = Line([long_ratio(source) for _ in range(24)], Line.even(24).marks)
        for word in [random_word(source, 24) for _ in range(20)] + [(1,) * 24, (1,) + (-1,) * 23]:
            self.assertEqual(word_of_reading(line, noise_of(line, word, telling_hum(line))), word)
        self.assertIsNone(word_of_reading(line, (10 ** 299, 1)))
        self.assertIsNone(word_of_reading(line, (1 - 10 ** 299, 1)))

    def test_refuses(self):
        for thing in WRONG_RATIOS:
            self.refuses(BadAmount(), word_of_reading, EVEN, thing)


if __name__ == "__main__":
    unittest.main()
