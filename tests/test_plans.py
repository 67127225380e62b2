"""Points 4.1 to 4.4: plans and what is asked of them."""

import unittest

from hushedwires.errors import BadPlan, NoPair, OtherLine
from hushedwires.lines import Line
from hushedwires.plans import Between, Outside, Plan, check_asked, check_pair, first_heard, plan_hushed
from hushedwires.spans import Span, degree_span
from tests.reckon import (
    WRONG_WHOLES, Case, all_words, line_from, no_rows, noise, random_line, random_word, ratio, ratios, seeded)

PLUS, HALVES, TURNS, ENDS = (1, 1, 1, 1), (1, 1, -1, -1), (1, -1, 1, -1), (1, -1, -1, 1)


class PlanTest(Case):
    def test_kept(self):
        told = [[1, 1, -1, -1], TURNS]
        plan = Plan(Line.even(4), told)
        told[0][1] = -1
        told.append(ENDS)
        self.assertEqual(plan.words, (HALVES, TURNS))
        self.assertEqual([type(thing) for thing in (plan.words,) + plan.words], [tuple] * 3)
        self.assertEqual(plan.line, Line.even(4))
        self.assertEqual(len(plan), 2)
        self.assertEqual(list(plan), [HALVES, TURNS])
        self.assertEqual(len(Plan(Line.even(4), (PLUS,) * 7)), 7)

    def test_refuses(self):
        line = Line.even(2)
        for thing in no_rows() + [[], (), [(1, 1)] * 8, [None] * 8]:
            self.refuses(BadPlan(0, "many"), Plan, line, thing)
        for thing in no_rows() + [(), (1,), (1, 1, 1), (-1, 1), (1, 0), (1, True), (1, 1.0)]:
            self.refuses(BadPlan(0, "word"), Plan, line, [thing])
            self.refuses(BadPlan(1, "word"), Plan, line, [[1, -1], thing, thing])

    def test_equal(self):
        self.assertEqual(Plan(Line.even(2), [(1, 1)]), Plan(Line.even(2), ([1, 1],)))
        self.assertNotEqual(Plan(Line.even(2), [(1, 1)]), Plan(Line.even(2), [(1, -1)]))
        self.assertNotEqual(Plan(Line.even(2), [(1, 1)]), Plan(line_from([1, 2]), [(1, 1)]))
        self.assertNotEqual(Plan(Line.even(2), [(1, 1), (1, -1)]), Plan(Line.even(2), [(1, -1), (1, 1)]))
        for thing in (None, ((1, 1),), Line.even(2)):
            self.assertFalse(Plan(Line.even(2), [(1, 1)]) == thing)

    def test_check_pair(self):
        plan = Plan(Line.even(4), [HALVES, TURNS])
        self.assertEqual(check_pair(plan, 0), 0)
        self.assertEqual(check_pair(plan, 1), 1)
        for thing in WRONG_WHOLES + [-1, 2]:
            self.refuses(NoPair(thing), check_pair, plan, thing)

    def test_product_at(self):
        plan = Plan(Line.even(4), [HALVES, TURNS, ENDS])
        self.assertEqual(plan.product_at(0, 1), ENDS)
        self.assertEqual(plan.product_at(1, 0), ENDS)
        self.assertEqual(plan.product_at(2, 0), TURNS)
        for thing in WRONG_WHOLES + [-1, 3]:
            self.refuses(NoPair(thing), plan.product_at, thing, 7)
            self.refuses(NoPair(thing), plan.product_at, 1, thing)
        self.refuses(NoPair(1), plan.product_at, 1, 1)
        self.refuses(NoPair(9), plan.product_at, 9, 9)

    def test_with_word(self):
        plan = Plan(Line.even(4), [HALVES])
        self.assertEqual(plan.with_word(list(TURNS)), Plan(Line.even(4), [HALVES, TURNS]))
        self.assertEqual(plan.with_word(HALVES), Plan(Line.even(4), [HALVES, HALVES]))
        self.assertEqual(plan, Plan(Line.even(4), [HALVES]))
        for thing in no_rows() + [(1,), (-1, 1, 1, 1), (1, 1, 1, 0)]:
            self.refuses(BadPlan(1, "word"), plan.with_word, thing)
            self.refuses(BadPlan(0, "many"), Plan(Line.even(4), [PLUS] * 7).with_word, thing)
        self.refuses(BadPlan(0, "many"), Plan(Line.even(4), [PLUS] * 7).with_word, PLUS)
        self.refuses(BadPlan(6, "word"), Plan(Line.even(4), [PLUS] * 6).with_word, ())

    def test_without(self):
        plan = Plan(Line.even(4), [HALVES, TURNS, ENDS])
        self.assertEqual(plan.without(0), Plan(Line.even(4), [TURNS, ENDS]))
        self.assertEqual(plan.without(1), Plan(Line.even(4), [HALVES, ENDS]))
        self.assertEqual(plan.without(2), Plan(Line.even(4), [HALVES, TURNS]))
        for thing in WRONG_WHOLES + [-1, 3]:
            self.refuses(NoPair(thing), plan.without, thing)
        single = Plan(Line.even(4), [HALVES])
        self.refuses(NoPair(1), single.without, 1)
        self.refuses(BadPlan(0, "many"), single.without, 0)


class AskedTest(Case):
    def test_check_asked(self):
        span = Span([ratios(1, 2)])
        self.assertEqual(check_asked(Line.even(2), span), span)
        self.assertIsNone(check_asked(Line.even(2), None))
        self.refuses(OtherLine(), check_asked, Line.even(3), span)

    def test_examples(self):
        line = Line.even(4)
        plan, level, degree_2 = Plan(line, [HALVES, TURNS]), degree_span(line, 1), degree_span(line, 2)
        self.assertIsNone(first_heard(plan, level, level))
        self.assertIsNone(first_heard(plan, None, degree_2))
        self.assertIsNone(first_heard(plan, None, None))
        self.assertEqual(first_heard(plan, degree_2, level), Outside(0, 1, ratio(-4)))
        self.assertEqual(first_heard(Plan(line, [ENDS, TURNS]), degree_2, degree_2), Outside(1, 1, ratio(-2)))
        self.assertEqual(first_heard(Plan(line, [TURNS, ENDS]), level, degree_2), Between(0, 1, 1, ratio(-4)))
        self.assertIs(plan_hushed(plan, level, level), True)
        self.assertIs(plan_hushed(plan, degree_2, level), False)
        self.assertIs(plan_hushed(plan, None, None), True)

    def test_small_plans(self):
        source = seeded(44)
        kinds = []
        for _ in range(400):
            count = source.choice((2, 4, 4))
            line = source.choice((Line.even(count), Line.even(count), random_line(source, count)))
            words = [random_word(source, count) for _ in range(source.randint(1, 4))]
            spans = [source.choice((None, degree_span(line, 1), degree_span(line, 2), Span([
                ratios(*[source.randint(-1, 1) for _ in range(count)]) for _ in range(2)]))) for _ in range(2)]
            told = first_heard(Plan(line, words), *spans)
            right = self.all_heard(line, words, *spans)
            self.assertEqual(told, right[0] if right else None)
            self.assertIs(plan_hushed(Plan(line, words), *spans), not right)
            kinds.append(type(told))
        for kind in (type(None), Outside, Between):
            self.assertGreater(kinds.count(kind), 30)

    def all_heard(self, line, words, outside, between):
        found = []
        for pair, word in enumerate(words):
            for number, hum in enumerate(outside.hums if outside else ()):
                found.append(Outside(pair, number, ratio(noise(line, word, hum))))
        for pair, word in enumerate(words):
            for other in range(pair + 1, len(words)):
                product = [one * there for one, there in zip(word, words[other])]
                for number, hum in enumerate(between.hums if between else ()):
                    found.append(Between(pair, other, number, ratio(noise(line, product, hum))))
        return [one for one in found if one.noise != (0, 1)]

    def test_all_plans_of_three_words(self):
        line, level = Line.even(4), degree_span(Line.even(4), 1)
        hushed = [(one, other) for one in all_words(4) for other in all_words(4)
                  if plan_hushed(Plan(line, [one, other]), level, level)]
        self.assertEqual(len(hushed), 6)
        self.assertTrue(plan_hushed(Plan(line, [HALVES, TURNS, ENDS]), level, level))

    def test_refuses(self):
        plan, right, other = Plan(Line.even(2), [(1, 1)]), Span([ratios(1, 1)]), Span([ratios(1)])
        for call in (first_heard, plan_hushed):
            self.refuses(OtherLine(), call, plan, other, None)
            self.refuses(OtherLine(), call, plan, None, other)
            self.refuses(OtherLine(), call, plan, right, other)

    def test_results(self):
        self.assertEqual(Outside(0, 1, 2), Outside(0, 1, 2))
        for other in (Outside(1, 1, 2), Outside(0, 2, 2), Outside(0, 1, 1), Between(0, 0, 1, 2), (0, 1, 2)):
            self.assertNotEqual(Outside(0, 1, 2), other)
        self.assertEqual(Between(0, 1, 2, 3), Between(0, 1, 2, 3))
        for other in (Between(1, 1, 2, 3), Between(0, 2, 2, 3), Between(0, 1, 1, 3), Between(0, 1, 2, 2),
                      Outside(0, 2, 3)):
            self.assertNotEqual(Between(0, 1, 2, 3), other)
        told = ["as given"]
        self.assertIs(Outside(told, 0, 0).pair, told)
        self.assertIs(Between(0, told, 0, 0).other, told)


if __name__ == "__main__":
    unittest.main()
