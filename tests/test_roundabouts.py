"""Points 9.1, 9.2 and 9.13: roundabouts, and what pairs hear by way of others."""

import unittest
from fractions import Fraction
from itertools import permutations

from hushedwires.errors import BadWay, BadWord, NoPair
from hushedwires.lines import Line
from hushedwires.plans import Plan
from hushedwires.roundabouts import Round, by_way, first_round, round_table, roundabout_of
from hushedwires.words import backward_word, turned_word
from tests.arms import product_of_words
from tests.reckon import (
    WRONG_WHOLES, Case, all_words, fraction, fractions, line_from, long_ratio, no_rows, random_line, random_word, ratio, seeded)

HALVES, ENDS, TURN = (1, 1, -1, -1), (1, -1, -1, 1), (1, -1, 1, -1)
EVEN = Line.even(4)


def double_sum(lengths, one, other):
    """The sum over all sections a before b, and half of each section with itself."""
    total = Fraction(0)
    for b in range(len(lengths)):
        for a in range(b):
            total += lengths[a] * one[a] * lengths[b] * other[b]
        total += lengths[b] * lengths[b] * one[b] * other[b] / 2
    return total


def level(line, word):
    return sum(length * sign for length, sign in zip(fractions(line.lengths), word))


class RoundaboutTest(Case):
    def test_example(self):
        self.assertEqual(roundabout_of(EVEN, HALVES, ENDS), ratio(-2))
        self.assertEqual(roundabout_of(EVEN, ENDS, list(HALVES)), ratio(2))

    def test_double_sum(self):
        for count in range(1, 5):
            for one in all_words(count):
                for other in all_words(count):
                    self.check(Line.even(count), one, other)
        source = seeded(101)
        for _ in range(200):
            count = source.randint(1, 24)
            self.check(random_line(source, count), random_word(source, count), random_word(source, count))

    def check(self, line, one, other):
        told = roundabout_of(line, one, other)
        self.assertRatio(told)
        lengths = fractions(line.lengths)
        self.assertEqual(told, ratio(double_sum(lengths, one, other)))
        self.assertEqual(fraction(told) + fraction(roundabout_of(line, other, one)), level(line, one) * level(line, other))
        # backward, with both rows reversed but not turned, and each turned word changing the sign
        sign = one[-1] * other[-1]
        back = roundabout_of(line.backward(), backward_word(one), backward_word(other))
        self.assertEqual(sign * fraction(back), fraction(roundabout_of(line, other, one)))

    def test_cut_lines(self):
        source = seeded(102)
        for _ in range(60):
            count = source.randint(1, 8)
            line, one, other = random_line(source, count), random_word(source, count), random_word(source, count)
            section = source.randrange(count)
            lengths, share = fractions(line.lengths), Fraction(source.randint(1, 6), 7)
            cut = line_from(lengths[:section] + [share * lengths[section], (1 - share) * lengths[section]]
                            + lengths[section + 1:])
            words = [word[:section] + (word[section],) + word[section:] for word in (one, other)]
            self.assertEqual(roundabout_of(cut, *words), roundabout_of(line, one, other))

    def test_put_round(self):
        source = seeded(103)
        turned = 0
        for _ in range(3000):
            count = source.randint(2, 8)
            line = line_from([source.randint(1, 2) for _ in range(count)])
            one, other = random_word(source, count), random_word(source, count)
            if level(line, one) or level(line, other):
                continue
            k = source.randrange(1, count)
            lengths = fractions(line.lengths)
            put = line_from(lengths[k:] + lengths[:k])
            words = [turned_word(word[k:] + word[:k]) for word in (one, other)]
            sign = one[k] * other[k]
            self.assertEqual(fraction(roundabout_of(put, *words)), sign * fraction(roundabout_of(line, one, other)))
            turned += sign == -1
            heights = [[sum(length * sign for length, sign in zip(lengths[:many], word)) for many in range(count + 1)]
                       for word in (one, other)]
            area = sum(x * v - u * y for x, y, u, v in zip(heights[0], heights[1], heights[0][1:], heights[1][1:])) / 2
            self.assertEqual(fraction(roundabout_of(line, one, other)), area)
        self.assertGreater(turned, 5)

    def test_the_same_backward(self):
        source = seeded(104)
        for _ in range(60):
            half = [source.randint(1, 4) for _ in range(source.randint(1, 6))]
            line = line_from(half + half[::-1])
            for sign in (1, -1):
                one, other = [random_word(source, len(half)) for _ in range(2)]
                words = [word + tuple(sign * one for one in word[::-1]) for word in (one, other)]
                self.assertEqual(2 * fraction(roundabout_of(line, *words)), level(line, words[0]) * level(line, words[1]))

    def test_long_numbers(self):
        source = seeded(105)
        line = Line([long_ratio(source) for _ in range(8)], Line.even(8).marks)
        self.check(line, random_word(source, 8), random_word(source, 8))

    def test_refuses(self):
        for thing in no_rows() + [[], (1, 1, 1), (1,) * 5]:
            self.refuses(BadWord(0, "many"), roundabout_of, EVEN, thing, None)
            self.refuses(BadWord(0, "many"), roundabout_of, EVEN, ENDS, thing)
        for thing in WRONG_WHOLES + [0, 2]:
            self.refuses(BadWord(2, "sign"), roundabout_of, EVEN, (-1, 1, thing, 1), None)
            self.refuses(BadWord(2, "sign"), roundabout_of, EVEN, ENDS, (-1, 1, thing, 1))
        self.refuses(BadWord(0, "first"), roundabout_of, EVEN, (-1, 1, 1, 1), None)
        self.refuses(BadWord(0, "first"), roundabout_of, EVEN, ENDS, (-1, 1, 1, 1))


class WayTest(Case):
    def right(self, plan, first, way, last):
        one = product_of_words(plan.words[first], plan.words[way])
        other = product_of_words(plan.words[way], plan.words[last])
        return ratio(double_sum(fractions(plan.line.lengths), one, other))

    def test_drawn_plans(self):
        source = seeded(106)
        seen = set()
        for _ in range(120):
            count, pairs = source.randint(1, 6), source.randint(1, 7)
            line = source.choice((Line.even(count), random_line(source, count)))
            plan = Plan(line, [source.choice(all_words(count)[:source.choice((1, 4, 32))]) for _ in range(pairs)])
            rounds = None
            for first in range(pairs):
                for last in range(pairs):
                    right = tuple((way, self.right(plan, first, way, last))
                                  for way in range(pairs) if way not in (first, last))
                    self.assertEqual(round_table(plan, first, last), right)
                    for way, amount in right:
                        self.assertEqual(by_way(plan, first, way, last), amount)
            for first, way, last in permutations(range(pairs), 3):
                amount = self.right(plan, first, way, last)
                if amount != (0, 1) and rounds is None:
                    rounds = Round(first, way, last, amount)
            self.assertEqual(first_round(plan), rounds)
            seen.add(rounds is None)
        self.assertEqual(seen, {True, False})

    def test_level_plans(self):
        plan = Plan(EVEN, [HALVES, ENDS, TURN])
        for first, way, last in permutations(range(3)):
            there, back = by_way(plan, first, way, last), by_way(plan, last, way, first)
            self.assertEqual(fraction(there), -fraction(back))
        # the products here are both their opposites backward
        self.assertEqual(by_way(plan, 0, 1, 2), (0, 1))
        self.assertEqual(by_way(plan, 0, 2, 1), ratio(2))
        self.assertEqual(first_round(plan), Round(0, 2, 1, ratio(2)))

    def test_first_round_goes_by_first_then_way(self):
        source = seeded(107)
        for _ in range(50):
            plan = Plan(Line.even(6), [random_word(source, 6) for _ in range(4)])
            told = first_round(plan)
            right = [told for told in permutations(range(4), 3) if self.right(plan, *told) != (0, 1)]
            self.assertEqual(None if told is None else (told.first, told.way, told.last), right[0] if right else None)

    def test_edges(self):
        self.assertIsNone(first_round(Plan(EVEN, [HALVES])))
        self.assertIsNone(first_round(Plan(EVEN, [HALVES, ENDS])))
        self.assertEqual(round_table(Plan(EVEN, [HALVES]), 0, 0), ())
        self.assertEqual(round_table(Plan(EVEN, [HALVES, ENDS]), 0, 1), ())
        self.assertEqual(round_table(Plan(EVEN, [HALVES, ENDS]), 0, 0), ((1, by_way(Plan(EVEN, [HALVES, ENDS]), 0, 1, 0)),))

    def test_refuses(self):
        plan = Plan(EVEN, [HALVES, ENDS, TURN])
        for thing in WRONG_WHOLES + [-1, 3]:
            self.refuses(NoPair(thing), by_way, plan, thing, 9, 9)
            self.refuses(NoPair(thing), by_way, plan, 0, thing, 9)
            self.refuses(NoPair(thing), by_way, plan, 0, 0, thing)
            self.refuses(NoPair(thing), round_table, plan, thing, 9)
            self.refuses(NoPair(thing), round_table, plan, 0, thing)
            self.refuses(NoPair(thing), round_table, Plan(EVEN, [HALVES]), 0, thing)
        self.refuses(BadWay(), by_way, plan, 0, 0, 1)
        self.refuses(BadWay(), by_way, plan, 0, 1, 1)
        self.refuses(BadWay(), by_way, plan, 1, 1, 1)

    def test_result(self):
        given = {"first": [1], "way": 2, "last": 3, "amount": 4}
        one = Round(**given)
        self.assertEqual(vars(one), given)
        self.assertIs(one.first, given["first"])
        for name in given:
            self.assertNotEqual(one, Round(**{**given, name: None}))
        self.assertNotEqual(one, tuple(given.values()))


if __name__ == "__main__":
    unittest.main()
