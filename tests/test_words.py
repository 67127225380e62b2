"""Points 1.6 to 1.9: words."""

import unittest
from itertools import permutations

from hushedwires.errors import BadCount, BadNumber, BadPoles, BadWord, NoPole, NoSection, TooMany
from hushedwires.lines import Line
from hushedwires.words import (
    backward_word, check_poles, check_signs, check_word, crossed_at, crossings_of, cut_word, each_word, number_of_word,
    opposite_of, product_of, turned_word, word_by_number, word_with)
from tests.reckon import WRONG_WHOLES, Case, all_words, crossings, no_rows

WRONG_SIGNS = WRONG_WHOLES + [0, 2, -2, "+"]
WORDS = [word for count in range(1, 6) for word in all_words(count)]
ALL_CHECKED = [check_signs, opposite_of, crossings_of, number_of_word, backward_word,
               lambda word: crossed_at(word, 0), lambda word: cut_word(word, -1),
               lambda word: product_of(word, [5]), lambda word: product_of((1,), word),
               lambda word: check_word(Line.even(2), word)]


class CheckTest(Case):
    def test_words_as_tuples(self):
        for word in WORDS + [(1,) * 24, (1, -1) * 12]:
            self.assertEqual(check_signs(list(word)), word)
            self.assertEqual(check_signs(word), word)
            self.assertIs(type(check_signs(list(word))), tuple)
            self.assertEqual(check_word(Line.even(len(word)), list(word)), word)
            self.assertIs(type(check_word(Line.even(len(word)), list(word))), tuple)

    def test_many(self):
        for check in ALL_CHECKED + [turned_word]:
            for thing in no_rows() + [[], (), (1,) * 25, (0,) * 25]:
                self.refuses(BadWord(0, "many"), check, thing)
        for word in ((1,), (1, 1, 1), (0, 0, 0), ()):
            self.refuses(BadWord(0, "many"), check_word, Line.even(2), word)

    def test_sign(self):
        for check in ALL_CHECKED + [turned_word]:
            for thing in WRONG_SIGNS:
                self.refuses(BadWord(0, "sign"), check, (thing, thing))
                self.refuses(BadWord(1, "sign"), check, [1, thing])
                self.refuses(BadWord(1, "sign"), check, [-1, thing])

    def test_first(self):
        for check in ALL_CHECKED:
            self.refuses(BadWord(0, "first"), check, [-1, 1])
            self.refuses(BadWord(0, "first"), check, (-1, -1))

    def test_turned_word(self):
        for word in WORDS:
            self.assertEqual(turned_word(list(word)), word)
            self.assertEqual(turned_word([-sign for sign in word]), word)
            self.assertIs(type(turned_word(list(word))), tuple)

    def test_opposite_of(self):
        self.assertEqual(opposite_of([1, -1, -1]), (-1, 1, 1))
        for word in WORDS:
            self.assertEqual(opposite_of(word), tuple(-sign for sign in word))


class CrossingsTest(Case):
    def test_crossings_of(self):
        self.assertEqual(crossings_of([1, 1, -1, -1, 1]), (2, 4))
        self.assertEqual(crossings_of((1,)), ())
        self.assertEqual(crossings_of((1, -1) * 12), tuple(range(1, 24)))
        for word in WORDS:
            self.assertEqual(crossings_of(list(word)), tuple(crossings(word)))

    def test_check_poles(self):
        self.assertEqual(check_poles(1, []), ())
        self.assertEqual(check_poles(5, ()), ())
        for poles in permutations((1, 3, 4)):
            self.assertEqual(check_poles(5, list(poles)), (1, 3, 4))
            self.assertEqual(check_poles(5, poles), (1, 3, 4))
        self.assertEqual(check_poles(24, list(range(23, 0, -1))), tuple(range(1, 24)))

    def test_check_poles_refuses(self):
        for call in (check_poles, word_with):
            for thing in no_rows():
                self.refuses(BadPoles(), call, 5, thing)
            for thing in WRONG_WHOLES + [0, 5, -1, 6]:
                self.refuses(BadPoles(), call, 5, [thing])
                self.refuses(BadPoles(), call, 5, [2, thing])
            self.refuses(BadPoles(), call, 5, [2, 3, 2])
            self.refuses(BadPoles(), call, 5, [1, True])
            self.refuses(BadPoles(), call, 1, [1])
            self.refuses(BadPoles(), call, 3, [1, 2, 3])

    def test_word_with(self):
        self.assertEqual(word_with(5, [4, 2]), (1, 1, -1, -1, 1))
        self.assertEqual(word_with(1, ()), (1,))
        self.assertEqual(word_with(24, list(range(1, 24))), (1, -1) * 12)
        for word in WORDS:
            self.assertEqual(word_with(len(word), crossings_of(word)), word)
        for thing in WRONG_WHOLES + [0, 25, -1]:
            self.refuses(BadCount(), word_with, thing, [])
            self.refuses(BadCount(), word_with, thing, None)

    def test_crossed_at(self):
        self.assertEqual(crossed_at([1, 1, 1], 2), (1, 1, -1))
        self.assertEqual(crossed_at((1, -1, 1), 1), (1, 1, -1))
        for word in WORDS:
            for pole in range(1, len(word)):
                changed = crossed_at(list(word), pole)
                self.assertEqual(set(crossings(changed)) ^ {pole}, set(crossings(word)))
                self.assertEqual(crossed_at(changed, pole), word)
                self.assertEqual(changed[:pole], word[:pole])
            for thing in WRONG_WHOLES + [0, len(word), -1]:
                self.refuses(NoPole(thing), crossed_at, word, thing)


class ProductTest(Case):
    def test_products_are_a_group(self):
        for count in range(1, 5):
            words = all_words(count)
            for one in words:
                self.assertEqual(product_of(one, (1,) * count), one)
                self.assertEqual(product_of(one, list(one)), (1,) * count)
                for other in words:
                    both = product_of(list(one), other)
                    self.assertEqual(both, tuple(a * b for a, b in zip(one, other)))
                    self.assertIs(type(both), tuple)
                    self.assertEqual(both, product_of(other, one))
                    self.assertEqual(set(crossings(both)), set(crossings(one)) ^ set(crossings(other)))
                    for third in words:
                        self.assertEqual(product_of(both, third), product_of(one, product_of(other, third)))

    def test_refuses(self):
        self.refuses(BadWord(0, "many"), product_of, (1, 1), (1,))
        self.refuses(BadWord(1, "sign"), product_of, (1, 1), (1, 0, 1))
        self.refuses(BadWord(1, "sign"), product_of, (1, 0), (-1, 1))
        self.refuses(BadWord(0, "first"), product_of, (1, 1), (-1,))

    def test_backward_word(self):
        self.assertEqual(backward_word([1, 1, -1]), (1, -1, -1))
        for word in WORDS:
            there = backward_word(list(word))
            self.assertEqual(there[0], 1)
            self.assertEqual(sorted(len(word) - pole for pole in crossings(word)), crossings(there))
            self.assertEqual(backward_word(there), word)

    def test_cut_word(self):
        self.assertEqual(cut_word([1, -1, 1], 1), (1, -1, -1, 1))
        self.assertEqual(cut_word((1,), 0), (1, 1))
        for word in WORDS:
            for section in range(len(word)):
                cut = cut_word(list(word), section)
                self.assertEqual(cut[:section] + cut[section + 1:], word)
                self.assertEqual(cut[section], cut[section + 1])
            for thing in WRONG_WHOLES + [-1, len(word)]:
                self.refuses(NoSection(thing), cut_word, word, thing)
        self.assertEqual(len(cut_word((1,) * 23, 22)), 24)
        self.refuses(BadWord(0, "many"), cut_word, (1,) * 24, 23)
        self.refuses(NoSection(24), cut_word, (1,) * 24, 24)


class NumberTest(Case):
    def test_numbers(self):
        for count in range(1, 6):
            for number, word in enumerate(all_words(count)):
                self.assertEqual(number_of_word(list(word)), number)
                self.assertEqual(word_by_number(count, number), word)
        self.assertEqual(word_by_number(24, 2 ** 23 - 1), (1,) + (-1,) * 23)
        self.assertEqual(number_of_word((1,) + (-1,) * 23), 2 ** 23 - 1)
        self.assertEqual(word_by_number(4, 4), (1, -1, 1, 1))

    def test_word_by_number_refuses(self):
        for thing in WRONG_WHOLES + [0, 25]:
            self.refuses(BadCount(), word_by_number, thing, 0)
            self.refuses(BadCount(), word_by_number, thing, None)
        for thing in WRONG_WHOLES + [-1, 8]:
            self.refuses(BadNumber(), word_by_number, 4, thing)
        self.refuses(BadNumber(), word_by_number, 1, 1)
        self.refuses(BadNumber(), word_by_number, 24, 2 ** 23)

    def test_each_word(self):
        for count in range(1, 7):
            self.assertEqual(list(each_word(count)), all_words(count))
        many = 0
        for number, word in enumerate(each_word(12)):
            self.assertEqual(number, number_of_word(word))
            many += 1
        self.assertEqual(many, 2048)
        self.assertTrue(hasattr(each_word(3), "__next__"))

    def test_each_word_refuses(self):
        for thing in WRONG_WHOLES + [0, 25, -1]:
            self.refuses(BadCount(), each_word, thing)
        for count in (13, 24):
            self.refuses(TooMany(12), each_word, count)


if __name__ == "__main__":
    unittest.main()
