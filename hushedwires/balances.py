"""Lengths at which words are hushed, where lengths are unknown."""

from hushedwires.errors import BadWord, OtherLine, TooMany
from hushedwires.halves import asking_stages, first_askings, inner_shares, widest_weights
from hushedwires.lines import Line, check_marks
from hushedwires.orders import is_loud
from hushedwires.ratios import (
    ONE, ZERO, is_above_zero, is_ratio_row, is_row, minus, negative, over, plus, size_of, times)
from hushedwires.spans import hum_by_shares, is_hushed
from hushedwires.words import check_signs

MOST_BALANCED = 8
MOST_BALANCED_HUMS = 3


class Balance:
    """Lengths at which a word is hushed for a span."""

    def __init__(self, lengths):
        self.lengths = lengths

    def __eq__(self, other):
        return isinstance(other, Balance) and self.lengths == other.lengths


class Loud:
    """A hum of a span that is loud for a word, with the shares that make it."""

    def __init__(self, shares, hum):
        self.shares = shares
        self.hum = hum

    def __eq__(self, other):
        return isinstance(other, Loud) and self.shares == other.shares and self.hum == other.hum


def balance_of(word, span):
    """Lengths at which the word is hushed for the span, or a hum that is loud for it."""
    word = _check_fitting(word, span)
    if len(word) > MOST_BALANCED:
        raise TooMany(MOST_BALANCED)
    if len(span) > MOST_BALANCED_HUMS:
        raise TooMany(MOST_BALANCED_HUMS)
    rows = [_signed_entries(sign, section, span) for section, sign in enumerate(word)]
    stages = asking_stages(first_askings(rows), len(span))
    shares = inner_shares(stages)
    hum = hum_by_shares(span, shares)
    if is_loud(word, hum):
        return Loud(shares, hum)
    return Balance(widest_weights(stages[-1], len(word)))


def _check_fitting(word, span):
    word = check_signs(word)
    if len(word) != span.sections:
        raise OtherLine()
    return word


def _signed_entries(sign, section, span):
    entries = [hum[section] for hum in span.hums]
    return entries if sign == 1 else [negative(entry) for entry in entries]


def balance_fault(word, span, told):
    """What is wrong with a told Balance or Loud, or None."""
    word = _check_fitting(word, span)
    if isinstance(told, Balance):
        return _lengths_fault(word, span, told.lengths)
    if not isinstance(told, Loud):
        return "told"
    if not is_ratio_row(told.shares, len(span), len(span)):
        return "shares"
    hum = hum_by_shares(span, told.shares)
    if not is_row(told.hum, len(hum), len(hum)) or tuple(told.hum) != hum:
        return "hum"
    return None if is_loud(word, hum) else "loud"


def _lengths_fault(word, span, lengths):
    if not is_row(lengths, len(word), len(word)):
        return "lengths"
    if not all([is_above_zero(length) for length in lengths]):
        return "lengths"
    # noises do not depend on marks
    line = Line(lengths, Line.even(len(word)).marks)
    return None if is_hushed(line, word, span) else "heard"


def hushing_lengths(marks, word):
    """Lengths that give the word an order of just its number of crossings."""
    marks = check_marks(marks)
    word = check_signs(word)
    if len(word) != len(marks):
        raise BadWord(0, "many")
    runs = _runs_of(word)
    total = [ZERO] * len(word)
    for turn in range(max([len(run) for run in runs])):
        taken = [run[min(turn, len(run) - 1)] for run in runs]
        for section in taken:
            total[section] = plus(total[section], _weight_of(section, taken, marks))
    return tuple(total)


def _runs_of(word):
    runs = []
    for section, sign in enumerate(word):
        if section == 0 or sign != word[section - 1]:
            runs.append([])
        runs[-1].append(section)
    return runs


def _weight_of(section, taken, marks):
    product = ONE
    for other in taken:
        if other != section:
            product = times(product, minus(marks[section], marks[other]))
    return size_of(over(ONE, product))
