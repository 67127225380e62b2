"""Points 5.5 to 5.8 and 5.11: bounds for all plans, blocks at right angles, ranks, the bar for two pairs."""

import unittest
from fractions import Fraction
from math import comb

from hushedwires.bounds import pairs_bound, plan_bar, rank_of, right_blocks
from hushedwires.errors import BadCount, BadDegree, BadHums
from hushedwires.lines import Line
from hushedwires.planlists import all_plans, most_pairs
from hushedwires.plans import Plan
from hushedwires.spans import degree_span
from tests.reckon import (
    WRONG_RATIOS, WRONG_WHOLES, Case, fraction, fractions, line_from, long_ratio, no_rows, random_line, random_ratio,
    random_word, ratio, ratios, seeded)

PRIME = 2 ** 61 - 1


def right_rank(rows):
    """By elimination with Fractions, row after row."""
    kept = []
    for row in rows:
        row = list(row)
        for place, other in kept:
            factor = row[place] / other[place]
            row = [one - factor * there for one, there in zip(row, other)]
        pivot = next((place for place, one in enumerate(row) if one), None)
        if pivot is not None:
            kept.append((pivot, row))
    return len(kept)


def rank(hums):
    return right_rank([fractions(hum) for hum in hums])


def asked(line, degree):
    return degree_span(line, degree) if degree else None


class PairsBoundTest(Case):
    def test_examples(self):
        self.assertEqual(pairs_bound(4, 1, 1), 3)
        self.assertEqual(pairs_bound(4, 2, 2), 2)
        self.assertIsNone(pairs_bound(4, 1, 0))
        self.assertIsNone(pairs_bound(1, 0, 0))
        self.assertEqual(pairs_bound(24, 0, 1), 24)
        self.assertEqual(pairs_bound(1, 6, 6), 0)

    def test_all(self):
        for count in range(1, 25):
            for outside in range(7):
                self.assertIsNone(pairs_bound(count, outside, 0))
                for between in range(1, 7):
                    bounds = []
                    for e in range(1, 7):
                        if 2 * e - 1 <= between:
                            f = max(0, outside + 1 - e)
                            bounds.append((count - min(f, count)) // min(e, count))
                    self.assertEqual(pairs_bound(count, outside, between), min(bounds))

    def test_no_plan_has_more(self):
        source = seeded(56)
        met = 0
        for _ in range(60):
            line = source.choice((Line.even(source.choice((4, 6, 8))), random_line(source, source.randint(1, 6))))
            outside, between = source.randint(0, 3), source.randint(1, 3)
            plan = most_pairs(line, asked(line, outside), asked(line, between))
            bound = pairs_bound(len(line), outside, between)
            self.assertLessEqual(0 if plan is None else len(plan), bound)
            met += plan is not None and len(plan) == bound
        self.assertGreater(met, 3)

    def test_refuses(self):
        for thing in WRONG_WHOLES + [0, 25]:
            self.refuses(BadCount(), pairs_bound, thing, 7, 7)
        for thing in WRONG_WHOLES + [-1, 7]:
            self.refuses(BadDegree(thing), pairs_bound, 24, thing, 9)
            self.refuses(BadDegree(thing), pairs_bound, 24, 0, thing)
            self.refuses(BadDegree(thing), pairs_bound, 24, thing, 0)


class RightBlocksTest(Case):
    def test_small(self):
        plan = Plan(line_from([1, 2, 3], [-1, 0, 2]), [(1, -1, 1), (1, 1, -1)])
        self.assertEqual(right_blocks(plan, 2, 3), (
            (ratios(1, 1, 1), ratios(-1, 0, 2)),
            (ratios(1, -1, 1), ratios(-1, 0, 2), ratios(1, 0, 4)),
            (ratios(1, 1, -1), ratios(-1, 0, -2), ratios(1, 0, -4))))
        self.assertEqual(right_blocks(plan, 0, 0), ((), (), ()))
        self.assertEqual(right_blocks(plan, 0, 1), ((), (ratios(1, -1, 1),), (ratios(1, 1, -1),)))
        self.assertEqual(right_blocks(plan, 1, 0), ((ratios(1, 1, 1),), (), ()))

    def test_random_plans(self):
        source = seeded(57)
        for _ in range(100):
            count = source.randint(1, 6)
            line = random_line(source, count)
            words = [random_word(source, count) for _ in range(source.randint(1, 7))]
            low, high = source.randint(0, 6), source.randint(0, 6)
            told = right_blocks(Plan(line, words), low, high)
            marks = fractions(line.marks)
            self.assertEqual(told, (tuple(ratios(*[mark ** t for mark in marks]) for t in range(low)),) + tuple(
                tuple(ratios(*[sign * mark ** t for sign, mark in zip(word, marks)]) for t in range(high))
                for word in words))

    def test_right_angles(self):
        # low is f and high is e: for degrees 2 and 3 that is 1 and 2 (e = 2) as well as 2 and 1 (e = 1)
        lines = [(Line.even(4), 1, 1, 1, 1), (Line.even(8), 1, 1, 1, 1), (Line.even(8), 2, 2, 2, 1),
                 (Line.even(16), 2, 3, 1, 2)]
        words = [(1,) * 4 + (-1,) * 8 + (1,) * 4, (1, -1, -1, 1) * 4]
        for line, outside, between, low, high in lines:
            plans = [Plan(line, words)] if len(line) == 16 else list(
                all_plans(line, asked(line, outside), asked(line, between), 2))[:20]
            self.assertTrue(plans)
            for plan in plans:
                blocks = right_blocks(plan, low, high)
                for place, block in enumerate(blocks):
                    for other in blocks[place + 1:]:
                        for hum in block:
                            for against in other:
                                self.assertEqual(sum(fraction(length) * fraction(one) * fraction(there) for
                                                     length, one, there in zip(line.lengths, hum, against)), 0)
                self.assertEqual([rank_of(line, block) for block in blocks],
                                 [min(low, len(line))] + [min(high, len(line))] * len(plan))

    def test_refuses(self):
        plan = Plan(Line.even(2), [(1, -1)])
        for thing in WRONG_WHOLES + [-1, 7]:
            self.refuses(BadDegree(thing), right_blocks, plan, thing, 9)
            self.refuses(BadDegree(thing), right_blocks, plan, 6, thing)


class RankTest(Case):
    def test_small(self):
        line = Line.even(3)
        self.assertEqual(rank_of(line, []), 0)
        self.assertEqual(rank_of(line, [ratios(0, 0, 0)]), 0)
        self.assertEqual(rank_of(line, [ratios(0, 0, 0), ratios(0, 0, 5), ratios(0, 0, -1)]), 1)
        self.assertEqual(rank_of(line, [ratios(1, 1, 1), ratios(0, 1, 2), ratios(2, 3, 4)]), 2)
        self.assertEqual(rank_of(line, [ratios(1, 1, 1), ratios(0, 1, 2), ratios(0, 1, 4), ratios(9, 9, 9)]), 3)

    def test_random_hums(self):
        source = seeded(58)
        ranks = []
        for _ in range(300):
            count, many = source.randint(1, 6), source.randint(0, 5)
            line = random_line(source, count)
            hums = [[random_ratio(source, -1, 1, source.choice((1, 1, 3))) for _ in range(count)] for _ in range(many)]
            if many > 1 and source.random() < 0.5:
                hums.append([ratio(2 * fraction(one) - fraction(other)) for one, other in zip(hums[0], hums[1])])
                many += 1
            ranks.append((rank_of(line, hums), min(count, many)))
            self.assertEqual(ranks[-1][0], rank(hums))
        self.assertGreater(sum(told < most for told, most in ranks), 50)
        self.assertGreater(sum(told == most for told, most in ranks), 50)

    def test_many_hums(self):
        source = seeded(59)
        made = [[source.randint(-9, 9) for _ in range(24)] for _ in range(7)]
        hums = []
        for _ in range(60):
            shares = [Fraction(source.randint(-4, 4), source.randint(1, 5)) for _ in made]
            hums.append(ratios(*[sum(a * b for a, b in zip(shares, column)) for column in zip(*made)]))
        self.assertEqual(rank_of(Line.even(24), hums), 7)
        self.assertEqual(rank_of(Line.even(24), [ratios(*[k ** t for k in range(24)]) for t in range(24)]), 24)

    def test_numbers_that_are_alike_in_remainders(self):
        for prime in (PRIME, 2 ** 31 - 1, 2 ** 89 - 1, 2, 3):
            line = Line.even(2)
            self.assertEqual(rank_of(line, [ratios(1, 0), ratios(1, prime)]), 2)
            self.assertEqual(rank_of(line, [ratios(1, 1), ratios(1 + prime, 1)]), 2)
            self.assertEqual(rank_of(line, [ratios(1, Fraction(1, prime)), ratios(prime, 1)]), 1)

    def test_long_numbers(self):
        source = seeded(60)
        rows = [[long_ratio(source) for _ in range(4)] for _ in range(3)]
        self.assertEqual(rank_of(Line.even(4), rows), 3)
        whole = [source.randint(10 ** 298, 10 ** 299) for _ in range(4)]
        other = [source.randint(10 ** 298, 10 ** 299) for _ in range(4)]
        sums = [a - 3 * b for a, b in zip(whole, other)]
        self.assertEqual(rank_of(Line.even(4), [ratios(*whole), ratios(*other), ratios(*sums)]), 2)
        self.assertEqual(rank_of(Line.even(4), [ratios(*whole), ratios(*other), ratios(*sums[:3], sums[3] + 1)]), 3)

    def test_refuses(self):
        line = Line.even(2)
        for thing in no_rows() + [[ratios(1, 1)] * 61]:
            self.refuses(BadHums(0), rank_of, line, thing)
        for thing in no_rows() + [ratios(1), ratios(1, 1, 1)]:
            self.refuses(BadHums(1), rank_of, line, [ratios(1, 1), thing, None])
        for thing in WRONG_RATIOS:
            self.refuses(BadHums(0), rank_of, line, [[(1, 1), thing]])


class PlanBarTest(Case):
    def test_examples(self):
        self.assertIsNone(plan_bar(4, 1))
        self.assertEqual(plan_bar(4, 2), 2)

    def test_all(self):
        for count in range(1, 25):
            for degree in range(7):
                wrong = [j for j in range(1, degree + 1) if comb(count, j) % 4]
                self.assertEqual(plan_bar(count, degree), wrong[0] if wrong else None)
                power = next(2 ** k for k in range(4) if 2 ** k > degree)
                if degree > 0:
                    self.assertEqual(plan_bar(count, degree) is None, count % (2 * power) == 0)
                else:
                    self.assertIsNone(plan_bar(count, degree))

    def test_no_plan_behind_the_bar(self):
        for count in range(1, 11):
            for degree in (1, 2):
                span = degree_span(Line.even(count), degree)
                if plan_bar(count, degree) is not None:
                    self.assertEqual(list(all_plans(Line.even(count), span, span, 2)), [])

    def test_refuses(self):
        for thing in WRONG_WHOLES + [0, 25]:
            self.refuses(BadCount(), plan_bar, thing, 7)
        for thing in WRONG_WHOLES + [-1, 7]:
            self.refuses(BadDegree(thing), plan_bar, 4, thing)


if __name__ == "__main__":
    unittest.main()
