"""Points 7.4 to 7.6 and 7.10: the extents at which repeated words are hushed."""

import unittest
from math import lcm

from hushedwires.errors import BadDegree, BadExtent, BadPatterns, TooMany
from hushedwires.extents import Extents, hushed_extents, order_at, plan_extents
from hushedwires.lines import Line
from hushedwires.patterns import Pattern, product_pattern
from tests.reckon import WRONG_WHOLES, Case, all_words, no_rows, order, random_word, seeded
from tests.test_forms import random_pattern
from tests.test_patterns import long_word, small_patterns

SHORT, TURN, ENDS = Pattern((1, -1, -1)), Pattern((1, -1)), Pattern((1, -1, -1, 1))
ALL, NONE = ("all",), ("none",)


def right_order(word):
    power = 0
    while sum(sign * section ** power for section, sign in enumerate(word)) == 0:
        power += 1
    return power


def holds(row, rest, repeats):
    """What a row tells of some repeats."""
    return row == ("one", repeats) or (row == ALL and (repeats, rest) != (0, 0))


class HushedExtentsTest(Case):
    def test_examples(self):
        self.assertEqual(hushed_extents(SHORT, 1), Extents(3, (NONE, ("one", 1), ("one", 0))))
        self.assertEqual(hushed_extents(SHORT, 2), Extents(3, (NONE, ("one", 1), NONE)))
        self.assertEqual(hushed_extents(TURN, 1), Extents(2, (ALL, NONE)))
        self.assertEqual(hushed_extents(SHORT, 0), Extents(3, (ALL,) * 3))

    def check(self, pattern, degree, many):
        told = hushed_extents(pattern, degree)
        self.assertIs(type(told), Extents)
        self.assertEqual((told.period, len(told.rows)), (pattern.period, pattern.period))
        word = long_word(pattern, many)
        e = right_order(pattern.signs)
        for extent in range(1, many + 1):
            repeats, rest = divmod(extent, pattern.period)
            self.assertEqual(holds(told.rows[rest], rest, repeats), right_order(word[:extent]) >= degree)
        for rest, row in enumerate(told.rows):
            self.assertIn(row[0], ("all", "none", "one"))
            if degree <= e:
                first = rest == 0 or right_order(pattern.signs[:rest]) >= degree
                self.assertEqual(row, ALL if first else NONE)
            else:
                self.assertNotEqual(row, ALL)
        if degree > e:
            self.assertEqual(told.rows[0], NONE)
        return told

    def test_small_patterns(self):
        kinds = []
        for pattern in small_patterns(5):
            for degree in range(7):
                kinds += [row[0] for row in self.check(pattern, degree, 40).rows]
        for kind in ("all", "none", "one"):
            self.assertGreater(kinds.count(kind), 20)

    def test_random_patterns(self):
        source = seeded(74)
        for _ in range(100):
            pattern = random_pattern(source)
            told = self.check(pattern, source.randint(0, 6), 60)
            for rest, row in enumerate(told.rows):
                if row[0] == "one":
                    extent = row[1] * pattern.period + rest
                    self.assertGreaterEqual(extent, 1)
                    self.assertIs(told.holds(extent), True)

    def test_far_repeats(self):
        pattern = Pattern((1,) * 13 + (-1,) * 11)
        self.assertEqual(hushed_extents(pattern, 1).rows, (NONE,) * 24)
        falling = Pattern((1,) * 11 + (-1,) * 12)
        told = hushed_extents(falling, 1)
        self.assertEqual(told.rows[11], ("one", 11))
        self.assertEqual(hushed_extents(falling, 2).rows[11], ("one", 11))
        self.assertEqual(hushed_extents(falling, 3).rows, (NONE,) * 23)
        self.assertEqual((order_at(falling, 264), right_order(long_word(falling, 264))), (2, 2))

    def test_refuses(self):
        for thing in WRONG_WHOLES + [-1, 7]:
            self.refuses(BadDegree(thing), hushed_extents, SHORT, thing)


class MethodsTest(Case):
    def test_against_extents(self):
        source = seeded(75)
        for _ in range(100):
            pattern = random_pattern(source)
            self.check(hushed_extents(pattern, source.randint(0, 3)))
        for _ in range(100):
            rows = [source.choice((ALL, NONE, ("one", source.randint(1, 4)))) for _ in range(source.randint(1, 5))]
            self.check(Extents(len(rows), tuple(rows)))

    def check(self, told):
        right = [extent for extent in range(1, 200) if holds(
            told.rows[extent % told.period], extent % told.period, extent // told.period)]
        for extent in range(1, 200):
            self.assertIs(told.holds(extent), extent in right)
        for extent in range(100):
            above = [one for one in right if one > extent]
            self.assertEqual(told.next_after(extent), above[0] if above else None)
            self.assertEqual(told.many_upto(extent), len([one for one in right if one <= extent]))

    def test_large(self):
        far = 10 ** 30
        every = Extents(3, (ALL, NONE, ALL))
        self.assertEqual(every.next_after(far), far + 1)
        self.assertEqual(Extents(3, (NONE, ALL, NONE)).next_after(far), far + 3)
        self.assertEqual(Extents(3, (ALL, NONE, NONE)).next_after(0), 3)
        self.assertEqual(every.many_upto(far), far // 3 * 2)
        self.assertEqual(Extents(1, (ALL,)).many_upto(far), far)
        self.assertIs(every.holds(far), False)
        self.assertIs(every.holds(far - 1), True)
        one = Extents(2, (NONE, ("one", 10 ** 28)))
        self.assertEqual(one.next_after(5), 2 * 10 ** 28 + 1)
        self.assertIsNone(one.next_after(2 * 10 ** 28 + 1))
        self.assertEqual([one.many_upto(2 * 10 ** 28), one.many_upto(2 * 10 ** 28 + 1), one.many_upto(far)], [0, 1, 1])
        self.assertIsNone(Extents(1, (NONE,)).next_after(0))
        # no section is no extent
        self.assertEqual(Extents(1, (("one", 0),)).many_upto(9), 0)
        self.assertIsNone(Extents(1, (("one", 0),)).next_after(0))

    def test_refuses(self):
        told = hushed_extents(TURN, 1)
        for thing in WRONG_WHOLES + [0, -1, 10 ** 30 + 1]:
            self.refuses(BadExtent(), told.holds, thing)
            if thing != 0 or thing is False:
                self.refuses(BadExtent(), told.next_after, thing)
                self.refuses(BadExtent(), told.many_upto, thing)

    def test_result(self):
        told = ["as given"]
        self.assertIs(Extents(1, told).rows, told)
        self.assertEqual(vars(Extents(period=1, rows=2)), {"period": 1, "rows": 2})
        self.assertEqual(Extents(1, (ALL,)), Extents(1, (ALL,)))
        for other in (Extents(2, (ALL,)), Extents(1, (NONE,)), (1, (ALL,))):
            self.assertNotEqual(Extents(1, (ALL,)), other)


class OrderAtTest(Case):
    def test_small_patterns(self):
        highest = 0
        for pattern in small_patterns(5):
            e = order(Line.even(pattern.period), pattern.signs)
            word = long_word(pattern, 50)
            for extent in range(1, 51):
                told = order_at(pattern, extent)
                self.assertEqual(told, right_order(word[:extent]))
                highest = max(highest, told)
                if extent % pattern.period == 0:
                    self.assertEqual(told, e)
        self.assertEqual(highest, 2)

    def test_random_patterns(self):
        source = seeded(76)
        for _ in range(60):
            pattern = random_pattern(source)
            for _ in range(10):
                extent = source.randint(1, 150)
                self.assertEqual(order_at(pattern, extent), right_order(long_word(pattern, extent)))

    def test_single_extents_of_high_order(self):
        thue = [(-1) ** bin(section).count("1") for section in range(32)]
        for period, extent, right in ((6, 8, 3), (12, 16, 4), (24, 32, 5)):
            pattern = Pattern(thue[:period])
            self.assertEqual(order_at(pattern, extent), right)
            self.assertEqual(hushed_extents(pattern, right).rows[extent - period], ("one", 1))
            self.assertEqual(hushed_extents(pattern, right + 1).rows, (NONE,) * period)
            self.assertEqual(hushed_extents(pattern, right).many_upto(10 ** 30), 1)

    def test_large_extents(self):
        self.assertEqual(order_at(ENDS, 10 ** 30), 2)
        self.assertEqual(order_at(ENDS, 10 ** 30 - 1), 0)
        self.assertEqual(order_at(TURN, 10 ** 30), 1)
        self.assertEqual(order_at(SHORT, 10 ** 30), 0)

    def test_refuses(self):
        for thing in WRONG_WHOLES + [0, -1, 10 ** 30 + 1]:
            self.refuses(BadExtent(), order_at, TURN, thing)


class PlanExtentsTest(Case):
    def check(self, patterns, outside, between):
        told = plan_extents(patterns, outside, between)
        self.assertEqual(len(told.rows), told.period)
        words = [long_word(pattern, 50) for pattern in patterns]
        products = [tuple(a * b for a, b in zip(one, other))
                    for place, one in enumerate(words) for other in words[place + 1:]]
        for extent in range(1, 51):
            right = all(right_order(word[:extent]) >= outside for word in words) and all(
                right_order(word[:extent]) >= between for word in products)
            self.assertIs(told.holds(extent), right)
        for row in told.rows:
            self.assertIn(row[0], ("all", "none", "one"))
        return told

    def test_random_patterns(self):
        source = seeded(77)
        kinds = []
        for _ in range(120):
            most = source.choice((2, 4))
            patterns = [Pattern(random_word(source, source.choice((1, 2, 3, 4, most)))) for _ in range(source.randint(1, 4))]
            told = self.check(source.choice((patterns, tuple(patterns))), source.randint(0, 2), source.randint(0, 2))
            self.assertEqual(told.period, lcm(*[pattern.period for pattern in patterns]))
            kinds += [row[0] for row in told.rows]
        for kind in ("all", "none", "one"):
            self.assertGreater(kinds.count(kind), 10)

    def test_examples(self):
        halves = Pattern((1, 1, -1, -1))
        self.assertEqual(plan_extents([halves, TURN, ENDS], 1, 1), Extents(4, (ALL, NONE, NONE, NONE)))
        self.assertEqual(plan_extents([ENDS], 2, 6), Extents(4, (ALL, NONE, NONE, NONE)))
        self.assertEqual(plan_extents([SHORT], 1, 0), hushed_extents(SHORT, 1))
        self.assertEqual(plan_extents([SHORT, TURN], 0, 0), Extents(6, (ALL,) * 6))
        self.assertEqual(plan_extents([SHORT, SHORT], 1, 0).rows, hushed_extents(SHORT, 1).rows)
        self.assertEqual(plan_extents([SHORT, SHORT], 0, 1).rows, (NONE,) * 3)
        self.assertEqual(plan_extents([SHORT, TURN], 1, 0).rows, (NONE, NONE, ("one", 0), NONE, ("one", 0), NONE))
        self.assertEqual(plan_extents([TURN, ENDS], 0, 1).rows, hushed_extents(product_pattern(TURN, ENDS), 1).rows)
        # hushed alone at one extent each, but at unlike ones
        self.assertEqual(plan_extents([SHORT, Pattern((1, 1, -1, -1, -1, -1))], 1, 0).rows[2], NONE)

    def test_all_couples(self):
        words = all_words(3) + all_words(2)
        for one in words:
            for other in words:
                self.check([Pattern(one), Pattern(other)], 1, 0)
                self.check([Pattern(one), Pattern(other)], 0, 1)

    def test_refuses(self):
        for thing in no_rows() + [[], (), [TURN] * 5, [TURN, (1, -1)], [None], [TURN, Line.even(2)]]:
            self.refuses(BadPatterns(), plan_extents, thing, 9, 9)
        wide = [Pattern((1,) * 5), Pattern((1,) * 7)]
        for thing in WRONG_WHOLES + [-1, 7]:
            self.refuses(BadDegree(thing), plan_extents, wide, thing, 9)
            self.refuses(BadDegree(thing), plan_extents, wide, 6, thing)
        self.refuses(TooMany(24), plan_extents, wide, 0, 0)
        self.refuses(TooMany(24), plan_extents, [Pattern((1,) * 9), Pattern((1,) * 6), TURN, Pattern((1,) * 12)], 0, 0)
        self.assertEqual(plan_extents([Pattern((1,) * 8), Pattern((1,) * 3), TURN, Pattern((1,) * 12)], 6, 6).period, 24)


if __name__ == "__main__":
    unittest.main()
