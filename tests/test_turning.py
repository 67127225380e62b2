"""Points 8.3 and 8.10: plans made finer and turned about the spots."""

import unittest
from fractions import Fraction
from itertools import permutations

from hushedwires.errors import BadParts, BadSpots
from hushedwires.layouts import turning_layout
from hushedwires.lines import Line
from hushedwires.plans import Plan, plan_hushed
from hushedwires.spans import Span, degree_span, is_hushed
from hushedwires.strengths import arm_heard
from hushedwires.talks import further_talk, stand_sums, talk_lots, talk_reaches
from hushedwires.turning import Turned, finer_line, finer_row, finer_span, turn_plan
from tests.arms import couples, small_span
from tests.reckon import (
    WRONG_WHOLES, Case, all_words, fractions, noise, random_line, random_word, ratio, ratios, seeded)

PLAN = Plan(Line.even(2), [(1, -1), (1, 1)])


class FinerTest(Case):
    def test_lines(self):
        self.assertEqual(finer_line(Line.even(2), 2), Line([(1, 2)] * 4, [(0, 1), (1, 2), (1, 1), (3, 2)]))
        source = seeded(98)
        for _ in range(60):
            parts = source.randint(2, 4)
            line = random_line(source, source.randint(1, 24 // parts))
            told = finer_line(line, parts)
            marks = fractions(line.marks)
            marks.append(marks[-1] + 1)
            lengths = []
            places = []
            for section, length in enumerate(fractions(line.lengths)):
                for part in range(parts):
                    lengths.append(length / parts)
                    places.append(marks[section] + Fraction(part, parts) * (marks[section + 1] - marks[section]))
            self.assertEqual(told, Line(ratios(*lengths), ratios(*places)))
            word, hum = random_word(source, len(line)), [ratio(source.randint(-3, 3)) for _ in line.lengths]
            self.assertEqual(noise(told, finer_row(word, parts), finer_row(hum, parts)), noise(line, word, hum))

    def test_rows_and_spans(self):
        self.assertEqual(finer_row([1, "x"], 3), (1, 1, 1, "x", "x", "x"))
        self.assertEqual(finer_row((), 2), ())
        span = Span([ratios(1, 2), ratios(0, -1)])
        self.assertEqual(finer_span(span, 2), Span([ratios(1, 1, 2, 2), ratios(0, 0, -1, -1)]))
        self.assertEqual(finer_span(degree_span(Line.even(6), 6), 4).sections, 24)

    def test_refuses(self):
        line, span = Line.even(6), degree_span(Line.even(6), 1)
        for thing in WRONG_WHOLES + [0, 1, 5, -2]:
            self.refuses(BadParts(), finer_line, line, thing)
            self.refuses(BadParts(), finer_span, span, thing)
        self.refuses(BadParts(), finer_line, Line.even(1), 5)
        self.refuses(BadParts(), finer_span, degree_span(Line.even(1), 1), 1)
        for count, parts in ((13, 2), (9, 3), (7, 4)):
            self.assertEqual(len(finer_line(Line.even(count - 1), parts)), (count - 1) * parts)
            self.refuses(BadParts(), finer_line, Line.even(count), parts)
            self.refuses(BadParts(), finer_span, degree_span(Line.even(count), 1), parts)


class TurnTest(Case):
    def test_plans(self):
        self.assertEqual(turn_plan(PLAN, 2), Turned(
            Plan(Line([(1, 2)] * 4, [(0, 1), (1, 2), (1, 1), (3, 2)]), [(1, 1, -1, -1), (1, 1, 1, 1)]),
            turning_layout(2, 2, 4)))
        source = seeded(99)
        for _ in range(40):
            spots = source.randint(2, 4)
            count = source.randint(1, 24 // spots)
            plan = Plan(random_line(source, count), [random_word(source, count) for _ in range(source.randint(1, spots))])
            told = turn_plan(plan, spots)
            self.assertEqual(told.plan.line, finer_line(plan.line, spots))
            self.assertEqual(told.plan.words, tuple(finer_row(word, spots) for word in plan.words))
            self.assertEqual(told.layout, turning_layout(spots, len(plan), count * spots))

    def test_turned_plans_hush_talks(self):
        source = seeded(100)
        seen = set()
        for _ in range(150):
            spots, count = source.randint(2, 4), source.randint(1, 5)
            line = source.choice((Line.even(count), random_line(source, count)))
            plan = Plan(line, [source.choice(all_words(count)) for _ in range(source.randint(1, spots))])
            turned = turn_plan(plan, spots)
            spans = [small_span(source, count, 1) for _ in range(2)]
            outside, between = [finer_span(span, spots) for span in spans]
            for hum in outside.hums:
                sums = {stand_sums(turned.plan.line, turned.layout, pair, hum) for pair in range(len(plan))}
                self.assertEqual(len(sums), 1)
            self.assertEqual(talk_lots(turned.plan.line, turned.layout, outside), (tuple(range(len(plan))),))
            for legs in couples(len(plan)):
                self.assertIsNone(further_talk(turned.plan.line, turned.layout, legs, outside))
            for one, other in ((spans[0], None), (None, spans[1])):
                quiet = arm_heard(turned.plan, turned.layout, one and outside, other and between) is None
                self.assertIs(quiet, plan_hushed(plan, one, other))
                seen.add(quiet)
            self.check_reaches(plan, spots, turned, spans[1], between)
        self.assertEqual(seen, {True, False})

    def check_reaches(self, plan, spots, turned, span, finer):
        for low, high, pair in permutations(range(len(plan)), 3):
            quiet = talk_reaches(turned.plan, turned.layout, [low, high], pair, finer) is None
            apart = (low - pair + high - pair) % spots == 0
            self.assertIs(quiet, apart or is_hushed(plan.line, plan.words[pair], span))

    def test_refuses(self):
        for thing in WRONG_WHOLES + [0, 1, 5, -2]:
            self.refuses(BadSpots(), turn_plan, PLAN, thing)
        three = Plan(Line.even(13), [(1,) * 13] * 3)
        self.refuses(BadSpots(), turn_plan, three, 2)
        self.refuses(BadParts(), turn_plan, three, 3)
        self.refuses(BadParts(), turn_plan, Plan(Line.even(7), [(1,) * 7]), 4)
        self.refuses(BadSpots(), turn_plan, Plan(Line.even(1), [(1,)] * 5), 4)
        self.assertEqual(len(turn_plan(Plan(Line.even(6), [(1,) * 6] * 4), 4).layout), 24)

    def test_result(self):
        told = [1]
        self.assertIs(Turned(told, 2).plan, told)
        self.assertEqual(vars(Turned(plan=1, layout=2)), {"plan": 1, "layout": 2})
        self.assertEqual(Turned(1, 2), Turned(1, 2))
        for other in (Turned(1, 3), Turned(3, 2), (1, 2)):
            self.assertNotEqual(Turned(1, 2), other)


if __name__ == "__main__":
    unittest.main()
