"""Points 1.10 and 1.11: texts of lines, words and hums."""

import unittest
from fractions import Fraction

from hushedwires.errors import BadHum, BadText, BadWord
from hushedwires.lines import Line
from hushedwires.linetext import line_of, line_text
from hushedwires.wordtext import hum_of, hum_text, word_of, word_text, words_of, words_text
from tests.reckon import (
    WRONG_RATIOS, Case, all_words, line_from, long_ratio, random_line, random_ratio, random_word, ratios, seeded)

NO_TEXTS = [None, 1, True, b"1:0", ["1:0"], ("+",), {}]
NO_RATIO_TEXTS = ["", "-", "+1", "01", "-0", "2/4", "1/1", "0/1", "1/0", "1.5", "x", "1/2/3", "\u0661", "9" * 301]


class LineTextTest(Case):
    def test_written(self):
        self.assertEqual(line_text(line_from([1, Fraction(1, 2)], [0, 3])), "1:0 1/2:3")
        self.assertEqual(line_text(line_from([2], [Fraction(-7, 2)])), "2:-7/2")

    def test_read(self):
        self.assertEqual(line_of("1:0 1/2:3"), line_from([1, Fraction(1, 2)], [0, 3]))
        self.assertEqual(line_of("5:-1/3"), line_from([5], [Fraction(-1, 3)]))

    def test_both_ways(self):
        source = seeded(1)
        for count in range(1, 25):
            line = random_line(source, count)
            self.assertEqual(line_of(line_text(line)), line)
            self.assertEqual(line_text(line_of(line_text(line))), line_text(line))
        long = Line([long_ratio(source)], [long_ratio(source)])
        self.assertEqual(line_of(line_text(long)), long)

    def test_text(self):
        for thing in NO_TEXTS:
            self.refuses(BadText(0, "text"), line_of, thing)

    def test_many(self):
        parts = ["1:" + str(mark) for mark in range(25)]
        self.assertEqual(line_of(" ".join(parts[:24])), Line.even(24))
        self.refuses(BadText(0, "many"), line_of, " ".join(parts))
        self.refuses(BadText(0, "many"), line_of, " " * 24)

    def test_colon(self):
        self.refuses(BadText(0, "colon"), line_of, "")
        self.refuses(BadText(0, "colon"), line_of, " 1:0")
        self.refuses(BadText(1, "colon"), line_of, "1:0  1:1")
        self.refuses(BadText(1, "colon"), line_of, "1:0 ")
        self.refuses(BadText(1, "colon"), line_of, "1:0 1/2 0:x")
        self.refuses(BadText(0, "colon"), line_of, " " * 23)

    def test_ratio(self):
        for text in NO_RATIO_TEXTS:
            self.refuses(BadText(0, "ratio"), line_of, text + ":0")
            self.refuses(BadText(1, "ratio"), line_of, "1:0 1:" + text)
        self.refuses(BadText(0, "ratio"), line_of, "1:0:1")
        self.refuses(BadText(0, "ratio"), line_of, "1:0\n1:1")
        self.refuses(BadText(0, "ratio"), line_of, "0:x")
        self.refuses(BadText(0, "ratio"), line_of, "1:0\t1:1")

    def test_length(self):
        self.refuses(BadText(0, "length"), line_of, "0:0")
        self.refuses(BadText(1, "length"), line_of, "1:0 -1/2:0")

    def test_rising(self):
        self.refuses(BadText(1, "rising"), line_of, "1:0 1:0")
        self.refuses(BadText(2, "rising"), line_of, "1:0 1:1 1:1/2 x")

    def test_part_by_part(self):
        self.refuses(BadText(1, "rising"), line_of, "1:0 1:0 x")
        self.refuses(BadText(0, "length"), line_of, "-1:0 1:-1 x")
        self.refuses(BadText(1, "ratio"), line_of, "1:0 x:0 y")


class WordTextTest(Case):
    def test_written(self):
        self.assertEqual(word_text([1, -1, -1, 1]), "+--+")
        self.assertEqual(word_text((1,)), "+")
        self.assertEqual(words_text([[1, -1], (1,), (1, -1, 1)]), "+-\n+\n+-+")
        self.assertEqual(words_text(()), "")
        self.assertEqual(words_text([]), "")
        self.assertEqual(words_text([(1, 1)]), "++")

    def test_written_words_are_checked(self):
        self.refuses(BadWord(0, "many"), word_text, "+-")
        self.refuses(BadWord(0, "first"), word_text, (-1, 1))
        self.refuses(BadWord(1, "sign"), word_text, (1, True))
        self.refuses(BadWord(1, "sign"), words_text, [(1,), (1, 0), ()])
        self.refuses(BadWord(0, "many"), words_text, [(1,), (1,) * 25])

    def test_read(self):
        self.assertEqual(word_of("+--+"), (1, -1, -1, 1))
        self.assertEqual(words_of("+-\n++"), ((1, -1), (1, 1)))
        self.assertEqual(words_of("+"), ((1,),))

    def test_both_ways(self):
        source = seeded(2)
        for count in range(1, 25):
            word = random_word(source, count)
            self.assertEqual(word_of(word_text(word)), word)
            words = tuple(random_word(source, count) for _ in range(source.randint(1, 40)))
            self.assertEqual(words_of(words_text(words)), words)
            self.assertEqual(words_text(words_of(words_text(words))), words_text(words))
        many = tuple(all_words(8) * 4)
        self.assertEqual(words_of(words_text(many)), many)

    def test_word_of_refuses(self):
        for thing in NO_TEXTS:
            self.refuses(BadText(0, "text"), word_of, thing)
        self.assertEqual(word_of("+" * 24), (1,) * 24)
        for text in ("", "+" * 25, "x" * 25):
            self.refuses(BadText(0, "many"), word_of, text)
        self.refuses(BadText(1, "sign"), word_of, "+x-")
        self.refuses(BadText(0, "sign"), word_of, " +")
        self.refuses(BadText(2, "sign"), word_of, "+-\n")
        self.refuses(BadText(1, "sign"), word_of, "-x")
        self.refuses(BadText(0, "first"), word_of, "-+")
        self.refuses(BadText(0, "first"), word_of, "-")

    def test_words_of_refuses(self):
        for thing in NO_TEXTS:
            self.refuses(BadText(0, "text"), words_of, thing)
        self.refuses(BadText(0, "many"), words_of, "")
        self.refuses(BadText(1, "many"), words_of, "+\n")
        self.refuses(BadText(1, "many"), words_of, "+\n\n+")
        self.refuses(BadText(0, "many"), words_of, "\n+")
        self.refuses(BadText(2, "many"), words_of, "+-\n+-\n" + "+" * 25)
        self.refuses(BadText(1, "sign"), words_of, "++\n+ \n+")
        self.refuses(BadText(1, "first"), words_of, "++\n-+")
        self.refuses(BadText(1, "first"), words_of, "++\n-")
        self.refuses(BadText(1, "count"), words_of, "++\n+\nx")
        self.refuses(BadText(2, "count"), words_of, "++\n+-\n+-+\n-")


class HumTextTest(Case):
    def test_written(self):
        self.assertEqual(hum_text([(1, 1), (-7, 2), (0, 1)]), "1 -7/2 0")
        self.assertEqual(hum_text(ratios(5)), "5")
        self.assertEqual(hum_text(ratios(*range(30))), " ".join(str(number) for number in range(30)))
        for thing in WRONG_RATIOS:
            self.refuses(BadHum(1), hum_text, [(1, 1), thing, thing])
            self.refuses(BadHum(0), hum_text, (thing,))

    def test_read(self):
        self.assertEqual(hum_of("1 -7/2 0"), ((1, 1), (-7, 2), (0, 1)))
        self.assertEqual(len(hum_of(" ".join("0" * 24))), 24)

    def test_both_ways(self):
        source = seeded(3)
        for count in range(1, 25):
            hum = tuple(random_ratio(source) for _ in range(count))
            self.assertEqual(hum_of(hum_text(hum)), hum)
            self.assertEqual(hum_text(hum_of(hum_text(hum))), hum_text(hum))
        long = tuple(long_ratio(source) for _ in range(24))
        self.assertEqual(hum_of(hum_text(long)), long)

    def test_refused(self):
        for thing in NO_TEXTS:
            self.refuses(BadText(0, "text"), hum_of, thing)
        self.refuses(BadText(0, "many"), hum_of, " ".join("x" * 25))
        self.refuses(BadText(0, "ratio"), hum_of, "")
        self.refuses(BadText(1, "ratio"), hum_of, "1  2")
        self.refuses(BadText(1, "ratio"), hum_of, "1 ")
        for text in NO_RATIO_TEXTS:
            self.refuses(BadText(2, "ratio"), hum_of, "1 2 " + text + " y")


if __name__ == "__main__":
    unittest.main()
