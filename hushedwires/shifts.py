"""Shifts of poles that hush several words at once, or shares that show that there are none."""

from hushedwires.errors import BadShift, BadWord, BadWords
from hushedwires.hums import level_hum, noise_of
from hushedwires.ratios import (
    ONE, ZERO, common_bottom, compare, greatest_of, is_from_zero, is_ratio_row, is_row, least_of, minus, negative,
    over, plus, size_of, sum_of_products, times)
from hushedwires.slacks import are_within, check_shifts, check_slacks
from hushedwires.words import check_word

MOST_WORDS = 3
# the sizes of the shares that are enough, by the number of words
SIZES = {1: ((1,),), 2: ((0, 1), (1, 1)), 3: ((0, 0, 1), (0, 1, 1), (1, 1, 1), (1, 1, 2))}


class Hushing:
    """Shifts at which several words have the level noise 0."""

    def __init__(self, shifts):
        self.shifts = shifts

    def __eq__(self, other):
        return isinstance(other, Hushing) and self.shifts == other.shifts


class Fixed:
    """Shares of several words that show that no shifts hush them all."""

    def __init__(self, shares):
        self.shares = shares

    def __eq__(self, other):
        return isinstance(other, Fixed) and self.shares == other.shares


class Least:
    """The least slack that hushes several words, shifts that do, and shares that show that no lesser one does."""

    def __init__(self, slack, shifts, shares):
        self.slack = slack
        self.shifts = shifts
        self.shares = shares

    def __eq__(self, other):
        return (isinstance(other, Least) and self.slack == other.slack
                and self.shifts == other.shifts and self.shares == other.shares)


class Gauge:
    """Shares, and by how much they let shifts change the words' levels, weighed by them."""

    def __init__(self, shares, turns, slacks):
        self.shares = shares
        self.sides = [sum_of_products(shares, turn) for turn in turns]
        reaches = [ZERO]
        for side, slack in zip(self.sides[::-1], slacks[::-1]):
            reaches.append(plus(reaches[-1], times(slack, size_of(side))))
        # of all poles from each one on, and of none
        self.reaches = reaches[::-1]


def _check_words(line, words):
    if not is_row(words, 1, MOST_WORDS):
        raise BadWords(0, "many")
    return [_checked_word(line, index, word) for index, word in enumerate(words)]


def _checked_word(line, index, word):
    try:
        return check_word(line, word)
    except BadWord:
        raise BadWords(index, "word") from None


def _levels_of(line, words):
    return tuple([noise_of(line, word, level_hum(line)) for word in words])


def _turns_of(words):
    """For each pole the sign before less the sign behind, of each word."""
    return [tuple([(word[pole - 1] - word[pole], 1) for word in words]) for pole in range(1, len(words[0]))]


def _levels_at(levels, turns, shifts):
    for turn, shift in zip(turns, shifts):
        levels = tuple([plus(level, times(shift, one)) for level, one in zip(levels, turn)])
    return levels


def _all_shares(count):
    """All shares that are enough for so many words."""
    rows = [()]
    for _ in range(count):
        rows = [row + (share,) for row in rows for share in range(-2, 3)]
    return [tuple([(share, 1) for share in row]) for row in rows
            if tuple(sorted([abs(share) for share in row])) in SIZES[count]]


def _gauges_for(turns, slacks, count):
    return [Gauge(shares, turns, slacks) for shares in _all_shares(count)]


def hushing_shifts(line, words, slacks):
    """Shifts within the slacks that hush all words (Hushing), or why there are none (Fixed)."""
    words = _check_words(line, words)
    slacks = check_slacks(line, slacks)
    return _hushing_within(_levels_of(line, words), _turns_of(words), slacks)


def _hushing_within(levels, turns, slacks):
    # whole levels and slacks keep all sums short
    bottom = (common_bottom(levels + slacks), 1)
    levels = [times(level, bottom) for level in levels]
    slacks = [times(slack, bottom) for slack in slacks]
    gauges = _gauges_for(turns, slacks, len(levels))
    for gauge in gauges:
        if compare(sum_of_products(gauge.shares, levels), gauge.reaches[0]) > 0:
            return Fixed(gauge.shares)
    shifts = []
    for place, slack in enumerate(slacks):
        shift = _fitting_shift(levels, place, slack, gauges)
        levels = _levels_at(levels, turns[place:place + 1], [shift])
        shifts.append(over(shift, bottom))
    return Hushing(tuple(shifts))


def _fitting_shift(levels, place, slack, gauges):
    """The shift nearest to 0 that leaves no more than the poles behind can make up for."""
    lows = [negative(slack)]
    highs = [slack]
    for gauge in gauges:
        side = gauge.sides[place]
        if side[0] > 0:
            weighed = sum_of_products(gauge.shares, levels)
            # the opposite shares are a gauge, too
            lows.append(negative(over(plus(gauge.reaches[place + 1], weighed), side)))
            highs.append(over(minus(gauge.reaches[place + 1], weighed), side))
    low = greatest_of(lows)
    if low[0] > 0:
        return low
    high = least_of(highs)
    return high if high[0] < 0 else ZERO


def hushing_fault(line, words, slacks, told):
    """What is wrong with a told Hushing or Fixed, or None."""
    words = _check_words(line, words)
    slacks = check_slacks(line, slacks)
    levels, turns = _levels_of(line, words), _turns_of(words)
    if isinstance(told, Hushing):
        return _shifts_fault(line, levels, turns, slacks, told.shifts)
    if not isinstance(told, Fixed):
        return "kind"
    if not is_ratio_row(told.shares, len(words), len(words)):
        return "shares"
    reach = Gauge(told.shares, turns, slacks).reaches[0]
    return None if compare(sum_of_products(told.shares, levels), reach) > 0 else "sum"


def _shifts_fault(line, levels, turns, slacks, told):
    try:
        shifts = check_shifts(line, told)
    except BadShift:
        return "shifts"
    if not are_within(shifts, slacks):
        return "slack"
    return None if _all_hushed(levels, turns, shifts) else "noise"


def _all_hushed(levels, turns, shifts):
    return all([level == ZERO for level in _levels_at(levels, turns, shifts)])


def least_slack(line, words):
    """The Least slack of all poles that hushes all words, or why none does (Fixed)."""
    words = _check_words(line, words)
    levels, turns = _levels_of(line, words), _turns_of(words)
    slack = ZERO
    shares = (ZERO,) * len(words)
    for gauge in _gauges_for(turns, (ONE,) * len(turns), len(words)):
        weighed = sum_of_products(gauge.shares, levels)
        reach = gauge.reaches[0]
        if reach == ZERO and weighed[0] > 0:
            return Fixed(gauge.shares)
        if reach != ZERO and compare(weighed, times(slack, reach)) > 0:
            slack = over(weighed, reach)
            shares = gauge.shares
    hushing = _hushing_within(levels, turns, (slack,) * len(turns))
    return Least(slack, hushing.shifts, shares)


def slack_fault(line, words, told):
    """What is wrong with a told Least or Fixed, or None."""
    words = _check_words(line, words)
    levels, turns = _levels_of(line, words), _turns_of(words)
    if not isinstance(told, Least) and not isinstance(told, Fixed):
        return "kind"
    fault = _least_fault(line, levels, turns, told) if isinstance(told, Least) else None
    if fault is not None:
        return fault
    if not is_ratio_row(told.shares, len(words), len(words)):
        return "shares"
    weighed = sum_of_products(told.shares, levels)
    reach = Gauge(told.shares, turns, (ONE,) * len(turns)).reaches[0]
    if isinstance(told, Fixed):
        return None if reach == ZERO and weighed[0] > 0 else "sum"
    is_shown = compare(weighed, times(told.slack, reach)) >= 0 and (reach != ZERO or told.slack == ZERO)
    return None if is_shown else "sum"


def _least_fault(line, levels, turns, told):
    if not is_from_zero(told.slack):
        return "slack"
    fault = _shifts_fault(line, levels, turns, (told.slack,) * len(turns), told.shifts)
    # here a shift beyond the slack is one that is wrong by itself
    return "shifts" if fault == "slack" else fault
