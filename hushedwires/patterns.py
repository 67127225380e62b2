"""Patterns: words repeated without end."""

from math import lcm

from hushedwires.beginnings import ways_behind
from hushedwires.errors import (
    BadBound, BadExtent, BadPattern, BadPeriod, BadRepeats, BadWord, NoSection, TooMany)
from hushedwires.lines import MOST_SECTIONS
from hushedwires.ratios import is_from_zero, is_whole
from hushedwires.words import MOST_LISTED, check_signs, each_word

FARTHEST = 10 ** 30


class Pattern:
    """1 to 24 signs that are repeated without end."""

    def __init__(self, signs):
        self.signs = _checked_signs(signs)
        self.period = len(self.signs)
        self.total = sum(self.signs)

    def __len__(self):
        return len(self.signs)

    def __eq__(self, other):
        return isinstance(other, Pattern) and self.signs == other.signs

    def sign_at(self, section):
        """The sign at a section, from 0 to 10 ** 30."""
        if not is_whole(section, 0, FARTHEST):
            raise NoSection(section)
        return self.signs[section % self.period]

    def word_at(self, extent):
        """The signs of the first 1 to 24 sections."""
        if not is_whole(extent, 1, MOST_SECTIONS):
            raise BadExtent()
        return _signs_upto(self.signs, extent)


def _checked_signs(signs):
    try:
        return check_signs(signs)
    except BadWord as wrong:
        raise BadPattern(wrong.index, wrong.what) from None


def _signs_upto(signs, extent):
    return tuple([signs[section % len(signs)] for section in range(extent)])


def repeat_pattern(pattern, repeats):
    """The pattern of so many periods."""
    if not is_whole(repeats, 1):
        raise BadRepeats()
    if pattern.period * repeats > MOST_SECTIONS:
        raise TooMany(MOST_SECTIONS)
    return Pattern(pattern.signs * repeats)


def product_pattern(one, other):
    """The pattern whose word at each extent is the product of both words."""
    period = lcm(one.period, other.period)
    if period > MOST_SECTIONS:
        raise TooMany(MOST_SECTIONS)
    return Pattern([sign * against for sign, against in zip(
        _signs_upto(one.signs, period), _signs_upto(other.signs, period))])


def least_pattern(pattern):
    """The pattern with the smallest period that has the same words at all extents."""
    for period in range(1, pattern.period):
        first = pattern.signs[:period]
        if pattern.period % period == 0 and first * (pattern.period // period) == pattern.signs:
            return Pattern(first)
    return Pattern(pattern.signs)


def unlike_at(one, other):
    """The first section at which two patterns differ, or None."""
    # patterns that differ do so ahead of this end
    end = one.period + other.period
    signs = _signs_upto(one.signs, end)
    for section, sign in enumerate(_signs_upto(other.signs, end)):
        if sign != signs[section]:
            return section
    return None


def _check_bounded(period, most, bound):
    if not is_whole(period, 1, most):
        raise BadPeriod()
    if not is_from_zero(bound):
        raise BadBound()


def steady_patterns(period, bound):
    """All patterns of a period whose level noise is from -bound to bound at all extents."""
    _check_bounded(period, MOST_LISTED, bound)
    for word in each_word(period):
        if _is_steady(word, bound):
            yield Pattern(word)


def _is_steady(word, bound):
    total = 0
    for sign in word:
        total = total + sign
        if abs(total) * bound[1] > bound[0]:
            return False
    return total == 0


def count_steady(period, bound):
    """How many patterns of a period have their level noise within the bound at all extents."""
    _check_bounded(period, MOST_SECTIONS, bound)
    widest = bound[0] // bound[1]
    counts = _counts_within({1: 1}, widest)
    for _ in range(period - 1):
        counts = _counts_within(ways_behind(counts, 1), widest)
    return counts.get(0, 0)


def _counts_within(counts, widest):
    return {total: counts[total] for total in counts if abs(total) <= widest}
