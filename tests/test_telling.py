"""Points 9.11 and 9.12: tests that tell lots of wrong poles apart, and trees of tests."""

import time
import unittest
from itertools import combinations

from hushedwires.errors import BadMost, BadTests, BadWord, TooMany
from hushedwires.lines import Line
from hushedwires.telling import Alike, Ask, Found, Stuck, best_tree, follow_tree, least_pools, told_apart
from hushedwires.wrongs import telling_hum
from tests.reckon import WRONG_RATIOS, Case, fractions, long_ratio, no_rows, random_line, random_word, ratios, seeded
from tests.test_wrongs import WRONG_MOSTS, all_lots, drawn_tests, readings_of, wrong

EVEN = Line.even(4)
WORD, LEVEL = (1, 1, -1, -1), ratios(1, 1, 1, 1)
MARK = ratios(0, 1, 2, 3)


def all_readings(line, word, tests, most):
    return {lot: readings_of(line, wrong(word, lot), tests) for lot in all_lots(len(line), most)}


def part(lots, readings, test):
    """The lots by their reading of a test, readings ascending."""
    parts = {}
    for lot in lots:
        parts.setdefault(readings[lot][test], []).append(lot)
    return sorted(parts.items(), key=lambda couple: fractions(couple[:1])[0])


def least_depth(lots, readings, many):
    if len(lots) == 1:
        return 0
    parting = [part(lots, readings, test) for test in range(many)]
    return min([1 + max(least_depth(lots_there, readings, many) for _, lots_there in parts)
                for parts in parting if len(parts) > 1], default=0)


def drawn(source, most_sections):
    line = source.choice((Line.even(source.randint(1, most_sections)), random_line(source, source.randint(1, 6))))
    tests = drawn_tests(source, len(line), 5)
    if source.random() < 0.3:
        tests.append(ratios(*[source.randint(-3, 3) for _ in line.lengths]))
    return line, random_word(source, len(line)), tests, source.randint(0, 3)


class ApartTest(Case):
    def test_examples(self):
        self.assertEqual(told_apart(EVEN, WORD, [LEVEL], 1), Alike((1,), (3,)))
        self.assertIsNone(told_apart(EVEN, WORD, [LEVEL], 0))
        self.assertIsNone(told_apart(EVEN, WORD, [telling_hum(EVEN)], 3))
        self.assertEqual(least_pools(EVEN, WORD, [LEVEL], 0), ((),))
        self.assertEqual(least_pools(EVEN, WORD, [LEVEL], 1), ())
        self.assertEqual(least_pools(EVEN, WORD, [LEVEL, telling_hum(EVEN), MARK, telling_hum(EVEN)], 3),
                         ((1,), (3,), (0, 2)))

    def test_drawn_tests(self):
        source = seeded(122)
        told_none = pools_many = 0
        for _ in range(200):
            line, word, tests, most = drawn(source, 6)
            readings = all_readings(line, word, tests, most)
            lots = list(readings)
            right = next((Alike(one, other) for place, one in enumerate(lots) for other in lots[place + 1:]
                          if readings[one] == readings[other]), None)
            self.assertEqual(told_apart(line, word, tests, most), right)
            told_none += right is None
            good = [pool for many in range(len(tests) + 1) for pool in combinations(range(len(tests)), many)
                    if len({tuple(readings[lot][test] for test in pool) for lot in lots}) == len(lots)]
            pools = tuple(pool for pool in good if not any(set(other) < set(pool) for other in good))
            self.assertEqual(least_pools(line, word, tests, most), pools)
            self.assertIs(pools == (), right is not None)
            self.assertIs(pools == ((),), len(lots) == 1)
            pools_many += len(pools) > 1
        self.assertTrue(20 < told_none < 180)
        self.assertGreater(pools_many, 5)

    def test_longest_lines(self):
        source = seeded(123)
        start = time.monotonic()
        line = Line([long_ratio(source) for _ in range(12)], Line.even(12).marks)
        tests = [[long_ratio(source) for _ in range(12)] for _ in range(5)] + [ratios(*[0] * 12)]
        word = random_word(source, 12)
        self.assertIsNone(told_apart(line, word, tests, 3))
        self.assertEqual(least_pools(line, word, tests, 3), ((0,), (1,), (2,), (3,), (4,)))
        self.assertEqual(told_apart(line, word, tests[5:], 3), Alike((), (1,)))
        tree = best_tree(Line(line.lengths[:8], line.marks[:8]), word[:8], [test[:8] for test in tests], 3)
        self.assertEqual((tree.test, tree.depth, len(tree.branches)), (0, 1, 64))
        self.assertLess(time.monotonic() - start, 60)

    def test_refuses(self):
        for call, most in ((told_apart, 12), (least_pools, 12), (best_tree, 8)):
            wide = Line.even(most + 1)
            for thing in no_rows() + [[], [LEVEL] * 7]:
                self.refuses(BadTests(0, "many"), call, EVEN, WORD, thing, None)
            for thing in [LEVEL[:3], None] + [LEVEL[:3] + (one,) for one in WRONG_RATIOS]:
                self.refuses(BadTests(1, "hum"), call, EVEN, WORD, [LEVEL, thing, None], None)
            self.refuses(BadWord(0, "many"), call, EVEN, (1, 1), None, None)
            self.refuses(BadWord(1, "sign"), call, EVEN, (-1, 0, 1, 1), None, None)
            for thing in WRONG_MOSTS:
                self.refuses(BadMost(), call, EVEN, WORD, [LEVEL], thing)
                self.refuses(BadMost(), call, wide, (1,) * (most + 1), [ratios(*[1] * (most + 1))], thing)
            self.refuses(TooMany(most), call, wide, (1,) * (most + 1), [ratios(*[1] * (most + 1))], 0)
            call(Line.even(most), (1,) * most, [ratios(*[1] * most)], 3)


class TreeTest(Case):
    def check(self, tree, lots, readings, many):
        """The tree node by node: kinds, tests, branches, least depths."""
        parting = [test for test in range(many) if len(part(lots, readings, test)) > 1]
        if len(lots) == 1:
            self.assertEqual(tree, Found(lots[0]))
            self.assertEqual(tree.depth, 0)
            return
        if not parting:
            self.assertEqual(tree, Stuck(tuple(lots)))
            self.assertEqual(tree.depth, 0)
            return
        self.assertIs(type(tree), Ask)
        depths = {test: 1 + max(least_depth(there, readings, many) for _, there in part(lots, readings, test))
                  for test in parting}
        self.assertEqual(tree.depth, min(depths.values()))
        self.assertEqual(tree.test, min(test for test in parting if depths[test] == tree.depth))
        self.assertIs(type(tree.branches), tuple)
        right = part(lots, readings, tree.test)
        self.assertEqual([reading for reading, _ in tree.branches], [reading for reading, _ in right])
        for branch, (_, there) in zip(tree.branches, right):
            self.assertIs(type(branch), tuple)
            self.assertRatio(branch[0])
            self.check(branch[1], there, readings, many)

    def has_stuck(self, tree):
        return isinstance(tree, Stuck) or (isinstance(tree, Ask) and any(self.has_stuck(one) for _, one in tree.branches))

    def test_drawn_tests(self):
        source = seeded(124)
        depths, stuck = [], []
        for _ in range(120):
            line, word, tests, most = drawn(source, 7)
            readings = all_readings(line, word, tests, most)
            tree = best_tree(line, word, tests, most)
            self.check(tree, list(readings), readings, len(tests))
            self.assertIs(self.has_stuck(tree), told_apart(line, word, tests, most) is not None)
            depths.append(tree.depth)
            stuck.append(self.has_stuck(tree))
            for lot in readings:
                end = follow_tree(tree, source.choice((list, tuple))(readings[lot]))
                alike = tuple(other for other in readings if readings[other] == readings[lot])
                self.assertEqual(end, Found(lot) if len(alike) == 1 else Stuck(alike))
        self.assertGreaterEqual(max(depths), 4)
        self.assertTrue(20 < sum(stuck) < 100)

    def test_lowest_number_and_least_depth(self):
        telling = telling_hum(EVEN)
        tree = best_tree(EVEN, WORD, [LEVEL, telling, telling], 3)
        self.assertEqual((tree.test, tree.depth, len(tree.branches)), (1, 1, 8))
        self.assertEqual(best_tree(EVEN, WORD, [LEVEL], 0), Found(()))
        self.assertEqual(best_tree(Line.even(1), (1,), [ratios(0)], 3), Found(()))
        self.assertEqual(best_tree(EVEN, WORD, [ratios(0, 0, 0, 0)], 1), Stuck(((), (1,), (2,), (3,))))

    def test_slow_tests(self):
        # six tests with two readings each: no lot is found before most of them are asked
        start = time.monotonic()
        line = Line.even(8)
        tests = [ratios(*[0] * k + [1] + [0] * (7 - k)) for k in range(2, 8)]
        for word in ((1,) * 8, (1, -1) * 4):
            readings = all_readings(line, word, tests, 3)
            tree = best_tree(line, word, tests, 3)
            self.assertEqual(tree.depth, 6)
            self.check_lots(tree, readings)
        self.assertLess(time.monotonic() - start, 30)

    def check_lots(self, tree, readings):
        for lot in readings:
            end = follow_tree(tree, readings[lot])
            self.assertIn(lot, end.lots if isinstance(end, Stuck) else (end.lot,))

    def test_follow(self):
        tree = Ask(1, [((0, 1), Found((1,))), [(1, 2), Ask(0, (((3, 1), Stuck(((), (2,)))),))]])
        self.assertEqual(tree.depth, 2)
        self.assertEqual(follow_tree(tree, ratios(9, 0)), Found((1,)))
        self.assertEqual(follow_tree(tree, [(3, 1), (1, 2)]), Stuck(((), (2,))))
        self.assertIsNone(follow_tree(tree, [(3, 1), (1, 3)]))
        self.assertIsNone(follow_tree(tree, [(2, 1), (1, 2)]))
        for end in (Found((1,)), Stuck(((), (1,)))):
            self.assertIs(follow_tree(end, ratios(1)), end)


class ResultsTest(Case):
    def test_results(self):
        self.assertEqual(vars(Alike(one=1, other=2)), {"one": 1, "other": 2})
        self.assertEqual(vars(Found(lot=1)), {"lot": 1, "depth": 0})
        self.assertEqual(vars(Stuck(lots=1)), {"lots": 1, "depth": 0})
        self.assertEqual(vars(Ask(test=1, branches=())), {"test": 1, "branches": (), "depth": 1})
        for thing in (2, None, "ab", [1, (2, 3)], ((), ((0, 1), None))):
            self.assertEqual(vars(Ask(5, thing)), {"test": 5, "branches": thing, "depth": 1})
        told = [1]
        self.assertIs(Ask(1, told).branches, told)
        self.assertEqual(Ask(1, (((0, 1), Found(())),)), Ask(1, (((0, 1), Found(())),)))
        for one, other in ((Alike(1, 2), Alike(1, 3)), (Alike(1, 2), Alike(2, 2)), (Found(1), Found(2)), (Stuck(1), Stuck(2)),
                           (Found(1), Stuck(1)), (Ask(1, ()), Ask(2, ())), (Alike(1, 2), (1, 2)),
                           (Ask(1, (((0, 1), Found(())),)), Ask(1, (((0, 1), Found((1,))),)))):
            self.assertNotEqual(one, other)
            self.assertNotEqual(other, one)


if __name__ == "__main__":
    unittest.main()
