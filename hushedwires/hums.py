"""Hums, and the noise of a word under one."""

from math import comb

from hushedwires.errors import BadCount, BadPolynomial, BadPower, BadStretch
from hushedwires.lines import MOST_SECTIONS, check_hum
from hushedwires.ratios import (
    ONE, ZERO, is_ratio_row, is_whole, negative, plus, power_of, sum_of, times)
from hushedwires.words import check_word

MOST_POWER = 23


def noise_of(line, word, hum):
    """The sum of length * sign * hum over all sections."""
    word = check_word(line, word)
    hum = check_hum(len(line), hum)
    return sum_of(noise_parts(line, word, hum))


def noise_parts(line, signs, hum):
    """What each section adds to the noise of these signs."""
    return [_signed(sign, times(length, entry)) for length, sign, entry in zip(line.lengths, signs, hum)]


def _signed(sign, one):
    return one if sign == 1 else negative(one)


def signed_hum(word, hum):
    """The hum with each entry times the sign of the word there."""
    return tuple([_signed(sign, entry) for sign, entry in zip(word, hum)])


def level_hum(line):
    """The hum that is 1 at each section."""
    return (ONE,) * len(line)


def mark_hum(line, power):
    """The hum of a power of the marks."""
    if not is_whole(power, 0, MOST_POWER):
        raise BadPower()
    return tuple([power_of(mark, power) for mark in line.marks])


def stretch_hum(count, low, high):
    """The hum that is 1 on the sections from low to high - 1 and 0 elsewhere."""
    if not is_whole(count, 1, MOST_SECTIONS):
        raise BadCount()
    if not is_whole(low, 0) or not is_whole(high, 0, count) or low >= high:
        raise BadStretch()
    return (ZERO,) * low + (ONE,) * (high - low) + (ZERO,) * (count - high)


def polynomial_hum(line, coefficients):
    """The hum of a polynomial's values at the marks; power 0 comes first."""
    if not is_ratio_row(coefficients, 1, MOST_SECTIONS):
        raise BadPolynomial()
    return tuple([_value_at(coefficients, mark) for mark in line.marks])


def _value_at(coefficients, mark):
    value = ZERO
    for coefficient in coefficients[::-1]:
        value = plus(times(value, mark), coefficient)
    return value


def binomial_hum(count, lower):
    """The hum "k over lower" at section k."""
    if not is_whole(count, 1, MOST_SECTIONS):
        raise BadCount()
    if not is_whole(lower, 0, MOST_POWER):
        raise BadPower()
    return tuple([(comb(section, lower), 1) for section in range(count)])
