"""The tests' own reckoning, with Fractions, and things that are wrong in many ways."""

import random
import unittest
from fractions import Fraction
from itertools import product

from hushedwires.errors import WireError
from hushedwires.lines import Line

WRONG_WHOLES = [True, False, 1.0, None, "1", (1, 1), [1], {}]
WRONG_RATIOS = [1, 0, 1.0, True, None, "1/2", [1, 2], (1,), (1, 2, 3), (2, 4), (0, 2), (1, 0), (1, -2),
                (True, 1), (1, True), (1.0, 1), (1, 1.0), ("1", 1), (None, 1), ((1, 1), 1), {}]


def no_rows():
    """Things that are no sequences; the generator is made anew each time."""
    return [None, 3, True, 1.5, "++", "", {1: 1}, {1, -1}, (one for one in [1, 1]), range(2)]


def ratio(number, bottom=1):
    number = Fraction(number) / bottom
    return (number.numerator, number.denominator)


def fraction(one):
    return Fraction(one[0], one[1])


def ratios(*numbers):
    return tuple(ratio(number) for number in numbers)


def fractions(row):
    return [fraction(one) for one in row]


def line_from(lengths, marks=None):
    marks = range(len(lengths)) if marks is None else marks
    return Line(ratios(*lengths), ratios(*marks))


def noise(line, word, hum):
    return sum(length * sign * entry
               for length, sign, entry in zip(fractions(line.lengths), word, fractions(hum)))


def all_words(count):
    return [(1,) + rest for rest in product((1, -1), repeat=count - 1)]


def crossings(word):
    return [pole for pole in range(1, len(word)) if word[pole] != word[pole - 1]]


def order(line, word):
    power = 0
    while noise(line, word, [ratio(mark ** power) for mark in fractions(line.marks)]) == 0:
        power += 1
    return power


def is_loud(word, hum):
    products = [sign * entry for sign, entry in zip(word, fractions(hum))]
    return any(products) and (min(products) >= 0 or max(products) <= 0)


def is_true_ratio(thing):
    return (isinstance(thing, tuple) and len(thing) == 2
            and type(thing[0]) is int and type(thing[1]) is int
            and thing[1] >= 1 and ratio(thing[0], thing[1]) == thing)


def random_ratio(source, low=-6, high=6, bottom=4):
    return ratio(source.randint(low, high), source.randint(1, bottom))


def random_line(source, count):
    mark = Fraction(source.randint(-5, 2), source.randint(1, 3))
    marks = []
    for _ in range(count):
        marks.append(mark)
        mark += Fraction(source.randint(1, 4), source.randint(1, 3))
    return line_from([fraction(random_ratio(source, 1)) for _ in range(count)], marks)


def random_word(source, count):
    return (1,) + tuple(source.choice((1, -1)) for _ in range(count - 1))


def long_number(source, figures=300):
    return source.randint(10 ** (figures - 1), 10 ** figures - 1)


def long_ratio(source, figures=300):
    return ratio(long_number(source, figures), long_number(source, figures))


def seeded(number):
    return random.Random(number)


class Case(unittest.TestCase):
    """A test case that also looks at the attributes of errors."""

    def refuses(self, error, call, *given, **named):
        """The call raises just what the error shows: its class and its attributes."""
        with self.assertRaises(WireError) as caught:
            result = call(*given, **named)
            if hasattr(result, "__next__"):
                next(result)
        self.assertIs(type(caught.exception), type(error), vars(caught.exception))
        self.assertEqual(vars(caught.exception), vars(error))

    def assertRatio(self, thing):
        self.assertTrue(is_true_ratio(thing), thing)

    def assertRatios(self, row, count):
        self.assertIs(type(row), tuple)
        self.assertEqual(len(row), count)
        for one in row:
            self.assertRatio(one)
