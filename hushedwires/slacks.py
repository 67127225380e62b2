"""Slacks of poles, and the noises that shifts within them can make."""

from hushedwires.errors import BadAmount, BadShift, BadSlack
from hushedwires.hums import noise_of, signed_hum
from hushedwires.lines import Line
from hushedwires.ratios import (
    ZERO, compare, is_from_zero, is_ratio, is_row, minus, negative, over, plus, size_of, sum_of_products, times)


class ShiftRange:
    """The least and the greatest noise within slacks, and shifts at which they are met."""

    def __init__(self, low, high, low_shifts, high_shifts):
        self.low = low
        self.high = high
        self.low_shifts = low_shifts
        self.high_shifts = high_shifts

    def __eq__(self, other):
        return (isinstance(other, ShiftRange) and self.low == other.low and self.high == other.high
                and self.low_shifts == other.low_shifts and self.high_shifts == other.high_shifts)


def check_slacks(line, slacks):
    """The slacks of all poles of a line as a tuple."""
    if not is_row(slacks, len(line) - 1, len(line) - 1):
        raise BadSlack(0, "many")
    for index, slack in enumerate(slacks):
        if not is_from_zero(slack):
            raise BadSlack(index + 1, "slack")
    # the ends of the line stand fast
    ends = (ZERO,) + tuple(slacks) + (ZERO,)
    for section, length in enumerate(line.lengths):
        if compare(plus(ends[section], ends[section + 1]), length) > 0:
            raise BadSlack(section, "length")
    return tuple(slacks)


def check_shifts(line, shifts):
    """The shifts of all poles of a line as a tuple."""
    if not is_row(shifts, len(line) - 1, len(line) - 1):
        raise BadShift(0)
    for index, shift in enumerate(shifts):
        if not is_ratio(shift):
            raise BadShift(index + 1)
    return tuple(shifts)


def are_within(shifts, slacks):
    """Whether no shift without its sign is greater than its slack."""
    return all([compare(size_of(shift), slack) <= 0 for shift, slack in zip(shifts, slacks)])


def shifted_line(line, shifts):
    """The line with the lengths that the shifts make."""
    ends = (ZERO,) + check_shifts(line, shifts) + (ZERO,)
    lengths = [plus(length, minus(end, start)) for length, start, end in zip(line.lengths, ends, ends[1:])]
    return Line(lengths, line.marks)


def slack_range(line, word, hum, slacks):
    """The least and the greatest noise over all shifts within the slacks."""
    noise = noise_of(line, word, hum)
    slacks = check_slacks(line, slacks)
    changes = _changes_at_poles(word, hum)
    highest = tuple([_toward(change, slack) for change, slack in zip(changes, slacks)])
    reach = sum_of_products(highest, changes)
    return ShiftRange(minus(noise, reach), plus(noise, reach),
                      tuple([negative(shift) for shift in highest]), highest)


def _changes_at_poles(word, hum):
    """By how much a shift of 1 at each pole raises the noise."""
    signed = signed_hum(word, hum)
    return [minus(before, behind) for before, behind in zip(signed, signed[1:])]


def _toward(change, slack):
    if change == ZERO:
        return ZERO
    return slack if change[0] > 0 else negative(slack)


def shifts_meeting(line, word, hum, slacks, amount):
    """Shifts within the slacks at which the noise is just the amount, or None."""
    found = slack_range(line, word, hum, slacks)
    if not is_ratio(amount):
        raise BadAmount()
    if compare(amount, found.low) < 0 or compare(amount, found.high) > 0:
        return None
    noise = noise_of(line, word, hum)
    if amount == noise:
        return (ZERO,) * (len(line) - 1)
    # the noise changes in step with all shifts alike
    share = over(minus(amount, noise), minus(found.high, noise))
    return tuple([times(share, shift) for shift in found.high_shifts])
