"""Points 2.6 and 2.7: whether hums belong to spans."""

import unittest
from fractions import Fraction
from itertools import product

from hushedwires.errors import BadHum
from hushedwires.lines import Line
from hushedwires.sames import Apart, Made, holds_span, lean_hums, place_fault, place_hum, same_span
from hushedwires.spans import Span, degree_span, is_hushed
from tests.reckon import (
    WRONG_RATIOS, Case, all_words, fraction, fractions, long_ratio, no_rows, random_ratio, ratio, ratios, seeded)


def made_by(span, shares):
    return [sum(fraction(share) * fraction(hum[section]) for share, hum in zip(shares, span.hums))
            for section in range(span.sections)]


def crossed(row, hum):
    return sum(fraction(one) * fraction(entry) for one, entry in zip(row, hum))


def rank(rows):
    rows = [list(row) for row in rows]
    found = 0
    for column in range(len(rows[0])):
        pivot = [row for row in rows[found:] if row[column]]
        if pivot:
            place = [row is pivot[0] for row in rows].index(True)
            rows[found], rows[place] = rows[place], rows[found]
            for number in range(found + 1, len(rows)):
                factor = rows[number][column] / rows[found][column]
                rows[number] = [one - factor * there for one, there in zip(rows[number], rows[found])]
            found += 1
    return found


class PlaceTest(Case):
    def check(self, span, hum):
        told = place_hum(span, hum)
        is_made = rank([fractions(one) for one in span.hums]) == rank(
            [fractions(one) for one in span.hums] + [fractions(hum)])
        if is_made:
            self.assertIs(type(told), Made)
            self.assertRatios(told.shares, len(span))
            self.assertEqual(made_by(span, told.shares), fractions(hum))
        else:
            self.assertIs(type(told), Apart)
            self.assertRatios(told.row, span.sections)
            self.assertTrue(all(crossed(told.row, one) == 0 for one in span.hums))
            self.assertNotEqual(crossed(told.row, hum), 0)
        self.assertIsNone(place_fault(span, hum, told))
        return is_made

    def test_all_small_ones(self):
        seen = set()
        for entries in product((-1, 0, 1, 2), repeat=6):
            span = Span([ratios(*entries[:2]), ratios(*entries[2:4])])
            seen.add(self.check(span, list(ratios(*entries[4:]))))
        self.assertEqual(seen, {True, False})

    def test_many_spans(self):
        source = seeded(26)
        seen = []
        for _ in range(300):
            count, told = source.randint(1, 6), source.randint(1, 6)
            span = Span([[random_ratio(source, -2, 2, 2) for _ in range(count)] for _ in range(told)])
            if source.random() < 0.5:
                hum = [ratio(one) for one in made_by(span, [random_ratio(source) for _ in range(told)])]
            else:
                hum = [random_ratio(source, -2, 2, 2) for _ in range(count)]
            seen.append(self.check(span, hum))
        self.assertGreater(seen.count(True), 30)
        self.assertGreater(seen.count(False), 30)

    def test_edges(self):
        zeros = Span([ratios(0, 0, 0)] * 6)
        self.assertTrue(self.check(zeros, ratios(0, 0, 0)))
        self.assertFalse(self.check(zeros, ratios(0, 0, 1)))
        self.assertTrue(self.check(Span([ratios(1, 2)] * 6), ratios(2, 4)))
        self.assertTrue(self.check(Span([ratios(5)]), ratios(7)))
        source = seeded(27)
        span = Span([[random_ratio(source) for _ in range(24)] for _ in range(6)])
        self.assertFalse(self.check(span, [random_ratio(source) for _ in range(24)]))
        self.assertTrue(self.check(span, span.hums[5]))
        long = Span([[long_ratio(source, 60) for _ in range(24)] for _ in range(3)])
        self.assertFalse(self.check(long, [long_ratio(source, 60) for _ in range(24)]))
        self.assertTrue(self.check(Span([[long_ratio(source) for _ in range(2)] for _ in range(2)]),
                                   [long_ratio(source) for _ in range(2)]))

    def test_refuses(self):
        span = Span([ratios(1, 2)])
        for call in (place_hum, lambda span, hum: place_fault(span, hum, Made(ratios(1)))):
            for thing in no_rows() + [ratios(1), ratios(1, 2, 3)]:
                self.refuses(BadHum(0), call, span, thing)
            for thing in WRONG_RATIOS:
                self.refuses(BadHum(1), call, span, [(1, 1), thing])


class PlaceFaultTest(Case):
    span = Span([ratios(1, 0, 1), ratios(0, 1, 1)])
    inside, beside = ratios(1, 2, 3), ratios(1, 2, 4)

    def test_right(self):
        for form in (list, tuple):
            self.assertIsNone(place_fault(self.span, form(self.inside), Made(form(ratios(1, 2)))))
            self.assertIsNone(place_fault(self.span, form(self.beside), Apart(form(ratios(-2, -2, 2)))))

    def test_told(self):
        for thing in [None, ratios(1, 2), 5, "Made"]:
            self.assertEqual(place_fault(self.span, self.inside, thing), "told")
        for thing in no_rows() + [[], ratios(1), ratios(1, 2, 0), ratios(1, 2)[:1] + (2,)]:
            self.assertEqual(place_fault(self.span, self.inside, Made(thing)), "told")
        for thing in no_rows() + [[], ratios(1, 1), ratios(1, 1, -1, 0), ratios(1, 1) + (-1,)]:
            self.assertEqual(place_fault(self.span, self.beside, Apart(thing)), "told")

    def test_span(self):
        self.assertEqual(place_fault(self.span, self.beside, Apart(ratios(1, 1, 0))), "span")
        self.assertEqual(place_fault(self.span, self.beside, Apart(ratios(1, 0, -1))), "span")
        # 0 with the hum too, but "span" is asked first
        self.assertEqual(place_fault(self.span, self.beside, Apart(ratios(2, -1, 0))), "span")

    def test_hum(self):
        self.assertEqual(place_fault(self.span, self.inside, Made(ratios(1, 1))), "hum")
        self.assertEqual(place_fault(self.span, self.beside, Made(ratios(1, 2))), "hum")
        self.assertEqual(place_fault(self.span, self.inside, Apart(ratios(1, 1, -1))), "hum")
        self.assertEqual(place_fault(self.span, self.beside, Apart(ratios(0, 0, 0))), "hum")

    def test_results(self):
        self.assertEqual(Made(ratios(1)), Made(ratios(1)))
        self.assertNotEqual(Made(ratios(1)), Made(ratios(2)))
        self.assertEqual(Apart(ratios(1)), Apart(ratios(1)))
        self.assertNotEqual(Apart(ratios(1)), Apart(ratios(2)))
        self.assertFalse(Made(ratios(1)) == Apart(ratios(1)))
        self.assertFalse(Apart(ratios(1)) == Made(ratios(1)))
        told = [5]
        self.assertIs(Made(told).shares, told)
        self.assertIs(Apart(told).row, told)


class SameTest(Case):
    def test_lean_hums(self):
        self.assertEqual(lean_hums(Span([ratios(0, 0), ratios(1, 1), ratios(2, 2), ratios(0, 1), ratios(1, 5)])), (1, 3))
        self.assertEqual(lean_hums(Span([ratios(0)])), ())
        self.assertEqual(lean_hums(degree_span(Line.even(3), 6)), (0, 1, 2))
        source = seeded(28)
        for _ in range(100):
            count = source.randint(1, 5)
            rows = [ratios(*[source.randint(-1, 1) for _ in range(count)]) for _ in range(source.randint(1, 6))]
            ranks = [0] + [rank([fractions(row) for row in rows[:many]]) for many in range(1, len(rows) + 1)]
            told = tuple(number for number in range(len(rows)) if ranks[number] < ranks[number + 1])
            self.assertEqual(lean_hums(Span(rows)), told)

    def test_holds_and_same(self):
        source = seeded(29)
        seen = set()
        for _ in range(400):
            count = source.randint(1, 3)
            rows, others = [[ratios(*[source.randint(-1, 1) for _ in range(count)])
                             for _ in range(source.randint(1, 3))] for _ in range(2)]
            one, other = Span(rows), Span(others)
            both = rank([fractions(row) for row in rows + others])
            left, right = rank([fractions(row) for row in rows]), rank([fractions(row) for row in others])
            self.assertIs(holds_span(one, other), both == left)
            self.assertIs(same_span(one, other), left == both == right)
            seen.add((both == left, both == right))
            if left == both == right:
                for word in all_words(count):
                    self.assertEqual(is_hushed(Line.even(count), word, one), is_hushed(Line.even(count), word, other))
        self.assertEqual(len(seen), 4)

    def test_unlike_counts(self):
        one, other = Span([ratios(0)]), Span([ratios(0, 0)])
        for call in (holds_span, same_span):
            self.assertIs(call(one, other), False)
            self.assertIs(call(other, one), False)

    def test_same_after_shifting(self):
        line = Line.even(7)
        for degree in range(1, 7):
            self.assertIs(same_span(degree_span(line, degree), degree_span(line.shifted((5, 3)), degree)), True)
        self.assertIs(holds_span(degree_span(line, 3), degree_span(line, 2)), True)
        self.assertIs(holds_span(degree_span(line, 2), degree_span(line, 3)), False)
        self.assertEqual(Fraction(5, 3), fraction((5, 3)))


if __name__ == "__main__":
    unittest.main()
