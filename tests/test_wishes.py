"""Points 10.3 and 10.4: wishes, and the first one that a plan does not grant."""

import unittest
from itertools import permutations

from hushedwires.errors import BadWish
from hushedwires.limits import Limits
from hushedwires.lines import Line
from hushedwires.loudest import Endless, Greatest, endless_fault, greatest_fault
from hushedwires.plans import Between, Outside, Plan
from hushedwires.roundabouts import Round
from hushedwires.wishes import Broken, Lacking, check_wishes, first_broken, grants_all
from tests.arms import product_of_words
from tests.limited import is_endless, whole_limits
from tests.reckon import (
    WRONG_RATIOS, WRONG_WHOLES, Case, all_words, crossings, fraction, fractions, no_rows, noise, order, random_line,
    random_word, ratio, ratios, seeded)
from tests.test_roundabouts import double_sum

EVEN = Line.even(4)
HALVES, ENDS, TURN, PLAIN = (1, 1, -1, -1), (1, -1, -1, 1), (1, -1, 1, -1), (1, 1, 1, 1)
LIMITS = Limits.alike(4, (2, 1), (1, 2))
GOOD = [("hushed", 6, 6), ("all hushed", 1), ("apart", 6, 0, 6), ("all apart", 1), ("at most", 6, LIMITS, (-1, 2)),
        ("round", 0, 6, 0), ("round", 0, 1, 2), ("all round",), ("pairs", 1), ("pairs", 7), ("crossings", 0),
        ("crossings", 161)]


def wrong_wishes():
    """Things that are no wishes for plans of four sections."""
    wrong = no_rows() + [[], (), ("hushed",), ("hushed", 0), ("hushed", 0, 1, 1), ("all hushed",), ("all hushed", 1, 1),
                         ("apart", 0, 1), ("apart", 0, 1, 1, 1), ("apart", 2, 2, 1), ("all apart",), ("all apart", 0, 1),
                         ("at most", 0, LIMITS), ("at most", 0, LIMITS, (1, 1), 0), ("round", 0, 1), ("round", 0, 1, 2, 3),
                         ("round", 1, 1, 0), ("round", 0, 1, 1), ("round", 1, 1, 1), ("all round", 0), ("pairs",),
                         ("pairs", 1, 1), ("crossings",), ("crossings", 1, 1), ("Hushed", 0, 1), ("other", 1), (1, 2),
                         (None, 0, 1), (["hushed"], 0, 1), ({}, 1), (("pairs",), 1), (b"pairs", 1), ("all_round",), ("",)]
    for one in WRONG_WHOLES + [-1, 7]:
        wrong += [("hushed", one, 1), ("apart", one, 1, 1), ("apart", 0, one, 1), ("at most", one, LIMITS, (1, 1)),
                  ("round", one, 1, 2), ("round", 0, one, 2), ("round", 0, 1, one), ("hushed", 0, one),
                  ("all hushed", one), ("apart", 0, 1, one), ("all apart", one)]
    for one in WRONG_WHOLES + [0, 8, -1]:
        wrong += [("pairs", one)]
    for one in WRONG_WHOLES + [-1, 162]:
        wrong += [("crossings", one)]
    wrong += [("hushed", 0, 0), ("all hushed", 0), ("apart", 0, 1, 0), ("all apart", 0)]
    for one in (None, ratios(1, 1, 1, 1), 5, EVEN, Limits.alike(3, None, None), Limits.alike(5, None, None)):
        wrong.append(("at most", 0, one, (1, 1)))
    return wrong + [("at most", 0, LIMITS, one) for one in WRONG_RATIOS]


class CheckTest(Case):
    def test_kept(self):
        for wish in GOOD:
            for form in (list, tuple):
                self.assertEqual(check_wishes(EVEN, form([form(wish)])), (wish,))
        self.assertEqual(check_wishes(EVEN, GOOD[:5]), tuple(GOOD[:5]))
        given = [["pairs", 3]]
        told = check_wishes(EVEN, given)
        given[0][1] = 4
        self.assertEqual(told, (("pairs", 3),))

    def test_refuses(self):
        plan = Plan(EVEN, [HALVES])
        for thing in no_rows() + [[], (), [("pairs", 1)] * 6]:
            self.refuses(BadWish(0), check_wishes, EVEN, thing)
            self.refuses(BadWish(0), first_broken, plan, thing)
            self.refuses(BadWish(0), grants_all, plan, thing)
        for thing in wrong_wishes():
            self.refuses(BadWish(0), check_wishes, EVEN, [thing])
            # ahead of a wish that is not granted, and behind right ones
            self.refuses(BadWish(2), first_broken, plan, [("pairs", 7), ("crossings", 0), thing, None])
            self.refuses(BadWish(1), grants_all, plan, (("pairs", 1), thing))


def right_heard(line, word, degree):
    """The first power below the degree under which a word is heard, and its noise."""
    power = order(line, word)
    if power >= degree:
        return None
    return power, ratio(noise(line, word, [ratio(mark ** power) for mark in fractions(line.marks)]))


def right_why(plan, wish):
    """Why a plan does not grant a wish (but "at most"), by the wish's own words."""
    line, words, kind = plan.line, plan.words, wish[0]
    named = {"hushed": wish[1:2], "apart": wish[1:3], "round": wish[1:4]}.get(kind, ())
    for pair in named:
        if pair >= len(words):
            return Lacking(pair)
    if kind in ("hushed", "all hushed"):
        for pair in named or range(len(words)):
            heard = right_heard(line, words[pair], wish[-1])
            if heard:
                return Outside(pair, *heard)
    if kind in ("apart", "all apart"):
        couples = [sorted(named)] if named else [(a, b) for a in range(len(words)) for b in range(a + 1, len(words))]
        for pair, other in couples:
            heard = right_heard(line, product_of_words(words[pair], words[other]), wish[-1])
            if heard:
                return Between(pair, other, *heard)
    if kind in ("round", "all round"):
        for first, way, last in [named] if named else permutations(range(len(words)), 3):
            one, other = product_of_words(words[first], words[way]), product_of_words(words[way], words[last])
            amount = double_sum(fractions(line.lengths), one, other)
            if amount:
                return Round(first, way, last, ratio(amount))
    if kind == "pairs" and len(words) < wish[1]:
        return len(words)
    many = sum(len(crossings(word)) for word in words)
    return many if kind == "crossings" and many > wish[1] else None


def random_wish(source, line):
    degree, pairs = source.choice((1, 1, 2, 3)), source.sample(range(source.choice((3, 4, 7))), 3)
    return source.choice((
        ("hushed", pairs[0], degree), ("all hushed", degree), ("apart", pairs[0], pairs[1], degree), ("all apart", degree),
        ("round", *pairs), ("round", pairs[0], pairs[1], pairs[0]), ("all round",), ("pairs", source.randint(1, 4)),
        ("crossings", source.randint(0, 12)),
        ("at most", pairs[0], whole_limits(source, len(line), 0.2), ratio(source.randint(-1, 9)))))


class BrokenTest(Case):
    def check_louder(self, plan, wish, why):
        """A wish "at most", judged by its own sums; returns whether it is granted."""
        _, pair, limits, amount = wish
        if pair >= len(plan):
            self.assertEqual(why, Lacking(pair))
        elif is_endless(plan.line, plan.words[pair], limits, ()):
            self.assertIs(type(why), Endless)
            self.assertIsNone(endless_fault(plan.line, plan.words[pair], limits, why))
        elif why is not None:
            self.assertIs(type(why), Greatest)
            self.assertIsNone(greatest_fault(plan.line, plan.words[pair], limits, why))
            self.assertGreater(fraction(why.amount), fraction(amount))

    def test_drawn_plans(self):
        source = seeded(126)
        seen = {}
        for _ in range(2000):
            count = source.randint(1, 8)
            line = source.choice((Line.even(count), Line.even(count), random_line(source, count)))
            words = all_words(count)[-source.choice((4, 9, 128)):]
            plan = Plan(line, [source.choice(words) for _ in range(source.randint(1, 4))])
            wish = random_wish(source, line)
            told = first_broken(plan, [wish])
            self.assertIs(grants_all(plan, [wish]), told is None)
            if told is not None:
                self.assertIs(type(told), Broken)
                self.assertEqual(told.index, 0)
            if wish[0] == "at most":
                self.check_louder(plan, wish, None if told is None else told.why)
            else:
                right = right_why(plan, wish)
                self.assertEqual(told, None if right is None else Broken(0, right))
                self.assertIs(type(None if told is None else told.why), type(right))
            why = type(None if told is None else told.why)
            seen[(wish[0], why)] = seen.get((wish[0], why), 0) + 1
        for kind in ("hushed", "all hushed", "apart", "all apart", "at most", "round", "all round", "pairs", "crossings"):
            self.assertGreater(seen[(kind, type(None))], 2)
        for kind, why in (("hushed", Outside), ("all hushed", Outside), ("apart", Between), ("all apart", Between),
                          ("round", Round), ("all round", Round), ("at most", Greatest), ("at most", Endless),
                          ("pairs", int), ("crossings", int), ("hushed", Lacking), ("apart", Lacking), ("round", Lacking),
                          ("at most", Lacking)):
            self.assertGreater(seen[(kind, why)], 2)

    def test_at_most_is_met_just(self):
        source = seeded(127)
        for _ in range(60):
            line = random_line(source, source.randint(1, 6))
            plan = Plan(line, [random_word(source, len(line)) for _ in range(2)])
            limits = whole_limits(source, len(line), 0)
            told = first_broken(plan, [("at most", 1, limits, (-1, 1))])
            self.assertIs(type(told.why), Greatest)
            amount = fraction(told.why.amount)
            self.assertTrue(grants_all(plan, [("at most", 1, limits, ratio(amount))]))
            self.assertFalse(grants_all(plan, [("at most", 1, limits, ratio(amount - ratio_step()))]))

    def test_first_of_several(self):
        plan = Plan(EVEN, [HALVES, ENDS])
        good = [("all hushed", 1), ("all apart", 1), ("pairs", 2), ("crossings", 3), ("hushed", 1, 2)]
        self.assertIsNone(first_broken(plan, good))
        self.assertIs(grants_all(plan, good), True)
        for index in range(5):
            broken = list(good)
            broken[index] = ("pairs", 3)
            self.assertEqual(first_broken(plan, broken), Broken(index, 2))
            self.assertIs(grants_all(plan, broken), False)
            broken[-1] = ("crossings", 2)
            self.assertEqual(first_broken(plan, broken), Broken(index, 2) if index < 4 else Broken(4, 3))

    def test_examples(self):
        plan = Plan(EVEN, [HALVES, PLAIN, ENDS])
        self.assertEqual(first_broken(plan, [("all hushed", 1)]), Broken(0, Outside(1, 0, (4, 1))))
        self.assertEqual(first_broken(plan, [("hushed", 0, 2)]), Broken(0, Outside(0, 1, (-4, 1))))
        self.assertEqual(first_broken(plan, [("apart", 2, 0, 2)]), Broken(0, Between(0, 2, 1, (-2, 1))))
        self.assertEqual(first_broken(plan, [("all apart", 2)]), Broken(0, Between(0, 1, 1, (-4, 1))))
        self.assertEqual(first_broken(plan, [("apart", 5, 4, 1)]), Broken(0, Lacking(5)))
        self.assertEqual(first_broken(plan, [("round", 0, 3, 6)]), Broken(0, Lacking(3)))
        self.assertEqual(first_broken(plan, [("pairs", 4)]), Broken(0, 3))
        self.assertEqual(first_broken(plan, [("crossings", 2)]), Broken(0, 3))
        self.assertIsNone(first_broken(Plan(EVEN, [HALVES]), [("all apart", 6), ("all round",)]))

    def test_results(self):
        self.assertEqual(vars(Lacking(pair=1)), {"pair": 1})
        self.assertEqual(vars(Broken(index=1, why=2)), {"index": 1, "why": 2})
        for one, other in ((Lacking(1), Lacking(2)), (Broken(1, 2), Broken(1, 3)), (Broken(1, 2), Broken(2, 2)),
                           (Lacking(1), 1), (Broken(1, 2), (1, 2))):
            self.assertNotEqual(one, other)
        self.assertEqual(Broken(1, Lacking(2)), Broken(1, Lacking(2)))


def ratio_step():
    return fraction((1, 1000))


if __name__ == "__main__":
    unittest.main()
