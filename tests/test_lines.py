"""Points 1.3 to 1.5: lines, marks and the check of hums."""

import unittest
from fractions import Fraction

from hushedwires.errors import BadGap, BadHum, BadLine, BadShare, BadSize, BadStep, NoSection
from hushedwires.lines import Line, check_hum, check_marks
from hushedwires.words import backward_word, cut_word
from tests.reckon import (
    WRONG_RATIOS, WRONG_WHOLES, Case, fraction, fractions, line_from, no_rows, noise, order, random_line,
    random_ratio, random_word, ratio, ratios, seeded)


class LineTest(Case):
    def test_attributes(self):
        line = Line([(1, 2), (3, 1)], ((-1, 1), (5, 7)))
        self.assertEqual(line.lengths, ((1, 2), (3, 1)))
        self.assertEqual(line.marks, ((-1, 1), (5, 7)))
        self.assertIs(type(line.lengths), tuple)
        self.assertIs(type(line.marks), tuple)
        self.assertEqual(len(line), 2)
        self.assertEqual(len(Line(ratios(5), ratios(0))), 1)
        self.assertEqual(len(Line(ratios(*[1] * 24), ratios(*range(24)))), 24)

    def test_kept_apart_from_the_caller(self):
        lengths, marks = [(1, 1), (1, 1)], [(0, 1), (1, 1)]
        line = Line(lengths, marks)
        lengths[0] = (9, 1)
        marks.append((2, 1))
        self.assertEqual(line, Line.even(2))

    def test_many(self):
        one = ratios(1)
        for thing in no_rows() + [[], ()]:
            self.refuses(BadLine(0, "many"), Line, thing, one)
        for thing in no_rows() + [[], ()]:
            self.refuses(BadLine(0, "many"), Line, one, thing)
        self.refuses(BadLine(0, "many"), Line, ratios(1, 1), ratios(0))
        self.refuses(BadLine(0, "many"), Line, ratios(1), ratios(0, 1))
        self.refuses(BadLine(0, "many"), Line, ratios(*[1] * 25), ratios(*range(25)))
        self.refuses(BadLine(0, "many"), Line, [7], [0, 1])

    def test_length(self):
        for thing in WRONG_RATIOS + [(0, 1), (-1, 2)]:
            self.refuses(BadLine(0, "length"), Line, [thing, (1, 1)], ratios(0, 1))
            self.refuses(BadLine(1, "length"), Line, [(1, 1), thing], ratios(0, 1))

    def test_mark(self):
        for thing in WRONG_RATIOS:
            self.refuses(BadLine(0, "mark"), Line, ratios(1, 1), [thing, (1, 1)])
            self.refuses(BadLine(1, "mark"), Line, ratios(1, 1), [(0, 1), thing])

    def test_rising(self):
        self.refuses(BadLine(1, "rising"), Line, ratios(1, 1, 1), ratios(0, 0, 1))
        self.refuses(BadLine(2, "rising"), Line, ratios(1, 1, 1), ratios(0, 1, Fraction(99, 100)))
        self.refuses(BadLine(1, "rising"), Line, ratios(1, 1), ratios(-1, -2))

    def test_first_wrong_section(self):
        self.refuses(BadLine(0, "mark"), Line, [(1, 1), 0], [0, (1, 1)])
        self.refuses(BadLine(0, "length"), Line, [0, 0], [0, 0])
        self.refuses(BadLine(1, "rising"), Line, [(1, 1), (1, 1), 0], ratios(0, 0, 1))
        self.refuses(BadLine(1, "length"), Line, [(1, 1), 0], ratios(0, 0))

    def test_equal(self):
        self.assertEqual(Line([(1, 1)], [(0, 1)]), Line(((1, 1),), ((0, 1),)))
        self.assertNotEqual(Line.even(1), line_from([2]))
        self.assertNotEqual(Line.even(1), line_from([1], [1]))
        self.assertNotEqual(Line.even(2), Line.even(3))
        for thing in (None, 1, ((1, 1),), "line", [Line.even(1)]):
            self.assertFalse(Line.even(1) == thing)
            self.assertTrue(Line.even(1) != thing)

    def test_even(self):
        for count in range(1, 25):
            line = Line.even(count)
            self.assertEqual(line, line_from([1] * count))
            self.assertIs(line.is_even, True)
        for thing in WRONG_WHOLES + [0, 25, -1]:
            self.refuses(BadLine(0, "many"), Line.even, thing)
        self.assertIs(line_from([1, 2]).is_even, False)
        self.assertIs(line_from([1, 1], [0, 2]).is_even, False)
        self.assertIs(line_from([1, 1], [1, 2]).is_even, False)
        self.assertIs(line_from([2]).is_even, False)


class CutSectionTest(Case):
    def test_cut(self):
        line = line_from([2, 3, 5], [0, 10, 20])
        self.assertEqual(line.cut_section(1, (1, 3), (11, 1)), line_from([2, 1, 2, 5], [0, 10, 11, 20]))
        self.assertEqual(line.cut_section(0, (1, 4), (1, 2)),
                         line_from([Fraction(1, 2), Fraction(3, 2), 3, 5], [0, Fraction(1, 2), 10, 20]))
        self.assertEqual(line.cut_section(2, (4, 5), (30, 1)), line_from([2, 3, 4, 1], [0, 10, 20, 30]))
        self.assertEqual(line, line_from([2, 3, 5], [0, 10, 20]))

    def test_refuses(self):
        line = Line.even(3)
        for thing in WRONG_WHOLES + [-1, 3]:
            self.refuses(NoSection(thing), line.cut_section, thing, (1, 2), (1, 2))
            self.refuses(NoSection(thing), line.cut_section, thing, 0, 0)
        for thing in WRONG_RATIOS + [(0, 1), (1, 1), (3, 2), (-1, 2)]:
            self.refuses(BadShare(), line.cut_section, 0, thing, (1, 2))
            self.refuses(BadShare(), line.cut_section, 0, thing, 0)
        for thing in WRONG_RATIOS:
            self.refuses(BadLine(2, "mark"), line.cut_section, 1, (1, 2), thing)
        self.refuses(BadLine(2, "rising"), line.cut_section, 1, (1, 2), (1, 1))
        self.refuses(BadLine(3, "rising"), line.cut_section, 1, (1, 2), (2, 1))
        self.refuses(BadLine(0, "many"), Line.even(24).cut_section, 1, (1, 2), (3, 2))
        self.refuses(BadLine(0, "many"), Line.even(24).cut_section, 1, (1, 2), None)
        self.assertEqual(len(Line.even(23).cut_section(1, (1, 2), (3, 2))), 24)

    def test_noise_stays(self):
        source = seeded(14)
        for _ in range(60):
            count = source.randint(1, 7)
            line, word = random_line(source, count), random_word(source, count)
            hum = [random_ratio(source) for _ in range(count)]
            section = source.randrange(count)
            if section + 1 < count:
                mark = (fraction(line.marks[section]) + fraction(line.marks[section + 1])) / 2
            else:
                mark = fraction(line.marks[section]) + 1
            cut = line.cut_section(section, ratio(source.randint(1, 4), 5), ratio(mark))
            self.assertEqual(noise(cut, cut_word(word, section), hum[:section + 1] + hum[section:]),
                             noise(line, word, hum))


class WholeLineTest(Case):
    def test_backward(self):
        line = line_from([1, 2, 3], [-1, 0, 5])
        self.assertEqual(line.backward(), line_from([3, 2, 1], [-5, 0, 1]))
        self.assertEqual(line.backward().backward(), line)

    def test_grown(self):
        line = line_from([1, 2], [-1, 3])
        self.assertEqual(line.grown((3, 2)), line_from([Fraction(3, 2), 3], [Fraction(-3, 2), Fraction(9, 2)]))
        self.assertEqual(line.grown((3, 2)).grown((2, 3)), line)
        for thing in WRONG_RATIOS + [(0, 1), (-1, 1)]:
            self.refuses(BadSize(), line.grown, thing)

    def test_shifted(self):
        line = line_from([1, 2], [-1, 3])
        self.assertEqual(line.shifted((1, 2)), line_from([1, 2], [Fraction(-1, 2), Fraction(7, 2)]))
        self.assertEqual(line.shifted((-1, 2)).shifted((1, 2)), line)
        self.assertEqual(line.shifted((0, 1)), line)
        for thing in WRONG_RATIOS:
            self.refuses(BadStep(), line.shifted, thing)

    def test_joined_to(self):
        line, other = line_from([1, 2], [-1, 3]), line_from([5, 6, 7], [10, 11, 14])
        self.assertEqual(line.joined_to(other, (1, 2)),
                         line_from([1, 2, 5, 6, 7], [-1, 3, Fraction(7, 2), Fraction(9, 2), Fraction(15, 2)]))
        self.assertEqual(Line.even(3).joined_to(Line.even(4), (1, 1)), Line.even(7))
        self.assertEqual(len(Line.even(20).joined_to(Line.even(4), (1, 1))), 24)
        self.refuses(BadLine(0, "many"), Line.even(20).joined_to, Line.even(5), (1, 1))
        for thing in WRONG_RATIOS + [(0, 1), (-1, 1)]:
            self.refuses(BadGap(), line.joined_to, other, thing)
            self.refuses(BadGap(), Line.even(24).joined_to, other, thing)

    def test_orders_stay(self):
        source = seeded(4)
        for _ in range(60):
            count = source.choice((2, 4, 4, 8))
            line, word = random_line(source, count), random_word(source, count)
            if source.random() < 0.7:
                line = Line.even(count)
            held = order(line, word)
            self.assertEqual(order(line.shifted(random_ratio(source)), word), held)
            self.assertEqual(order(line.grown(random_ratio(source, 1)), word), held)
            self.assertEqual(order(line.backward(), backward_word(word)), held)


class ChecksTest(Case):
    def test_check_marks(self):
        for form in (list, tuple):
            self.assertEqual(check_marks(form(ratios(-1, Fraction(1, 2), 7))), ratios(-1, Fraction(1, 2), 7))
            self.assertIs(type(check_marks(form(ratios(1)))), tuple)
        self.assertEqual(check_marks(ratios(*range(24))), ratios(*range(24)))

    def test_check_marks_refuses(self):
        for thing in no_rows() + [[], (), ratios(*range(25))]:
            self.refuses(BadLine(0, "many"), check_marks, thing)
        for thing in WRONG_RATIOS:
            self.refuses(BadLine(1, "mark"), check_marks, [(0, 1), thing, 5])
        self.refuses(BadLine(1, "rising"), check_marks, [(0, 1), (0, 1), 5])
        self.refuses(BadLine(2, "rising"), check_marks, ratios(0, 2, 1))
        self.refuses(BadLine(0, "mark"), check_marks, [0, (0, 1)])

    def test_check_hum(self):
        for form in (list, tuple):
            self.assertEqual(check_hum(2, form(ratios(-1, 0))), ratios(-1, 0))
            self.assertIs(type(check_hum(1, form(ratios(1)))), tuple)
        self.assertEqual(check_hum(24, ratios(*range(24))), ratios(*range(24)))

    def test_check_hum_refuses(self):
        for thing in no_rows() + [[], ratios(1), ratios(1, 2, 3)]:
            self.refuses(BadHum(0), check_hum, 2, thing)
        for thing in WRONG_RATIOS:
            self.refuses(BadHum(0), check_hum, 2, [thing, thing])
            self.refuses(BadHum(1), check_hum, 2, [(1, 1), thing])

    def test_fractions_are_what_they_say(self):
        self.assertEqual(fractions(ratios(1, Fraction(1, 2))), [1, Fraction(1, 2)])


if __name__ == "__main__":
    unittest.main()
