"""Extents: how many sections of patterns make hushed words."""

from math import lcm

from hushedwires.errors import BadPatterns, TooMany
from hushedwires.forms import any_form, any_noise, check_extent
from hushedwires.lines import MOST_SECTIONS
from hushedwires.patterns import Pattern, product_pattern, repeat_pattern
from hushedwires.ratios import ZERO, is_row, negative, over
from hushedwires.spans import check_degree

MOST_PATTERNS = 4


class Extents:
    """For each rest of a period the repeats for which something holds."""

    def __init__(self, period, rows):
        self.period = period
        self.rows = rows

    def __eq__(self, other):
        return isinstance(other, Extents) and self.period == other.period and self.rows == other.rows

    def holds(self, extent):
        """Whether the extent is told."""
        check_extent(extent)
        repeats, rest = divmod(extent, self.period)
        row = self.rows[rest]
        return row[0] == "all" or (row[0] == "one" and row[1] == repeats)

    def next_after(self, extent):
        """The least told extent above this one, or None."""
        check_extent(extent, 0)
        found = []
        for rest, row in enumerate(self.rows):
            if row[0] == "all":
                # the least extent above this one with this rest; no section is no extent
                found.append(extent + 1 + (rest - extent - 1) % self.period)
            if row[0] == "one" and row[1] * self.period + rest > extent:
                found.append(row[1] * self.period + rest)
        return min(found) if found else None

    def many_upto(self, extent):
        """How many extents up to this one are told."""
        check_extent(extent, 0)
        many = 0
        for rest, row in enumerate(self.rows):
            if row[0] == "all":
                upto = (extent - rest) // self.period + 1
                many = many + (upto - 1 if rest == 0 else upto)
            if row[0] == "one" and 0 < row[1] * self.period + rest <= extent:
                many = many + 1
        return many


def hushed_extents(pattern, degree):
    """The extents at which the word of the pattern is hushed for the degree."""
    check_degree(degree)
    return Extents(pattern.period, tuple([_row_at(pattern, degree, rest) for rest in range(pattern.period)]))


def _row_at(pattern, degree, rest):
    for power in range(degree):
        form = any_form(pattern, power, rest)
        if form != (ZERO,) * len(form):
            return _row_of_root(pattern, degree, rest, form)
    return ("all",)


def _row_of_root(pattern, degree, rest, form):
    # the first form that is not 0 everywhere has a degree of 0 or 1
    if form[1] == ZERO:
        return ("none",)
    root, bottom = negative(over(form[0], form[1]))
    extent = root * pattern.period + rest
    if bottom != 1 or root < 0 or extent == 0:
        return ("none",)
    is_hushed = all([any_noise(pattern, power, extent) == ZERO for power in range(degree)])
    return ("one", root) if is_hushed else ("none",)


def order_at(pattern, extent):
    """The order of the word at an extent."""
    check_extent(extent)
    order = 0
    while any_noise(pattern, order, extent) == ZERO:
        order += 1
    return order


def plan_extents(patterns, outside, between):
    """The extents at which the words of all patterns, and their products, are hushed."""
    if not is_row(patterns, 1, MOST_PATTERNS):
        raise BadPatterns()
    if not all([isinstance(pattern, Pattern) for pattern in patterns]):
        raise BadPatterns()
    check_degree(outside)
    check_degree(between)
    period = 1
    for pattern in patterns:
        period = lcm(period, pattern.period)
    if period > MOST_SECTIONS:
        raise TooMany(MOST_SECTIONS)
    rows = (("all",),) * period
    for number, pattern in enumerate(patterns):
        rows = _rows_with(rows, pattern, outside)
        for other in patterns[number + 1:]:
            rows = _rows_with(rows, product_pattern(pattern, other), between)
    return Extents(period, rows)


def _rows_with(rows, pattern, degree):
    """What is left of the rows if this pattern, too, is to be hushed."""
    longer = repeat_pattern(pattern, len(rows) // pattern.period)
    added = hushed_extents(longer, degree).rows
    return tuple([_both_rows(row, other) for row, other in zip(rows, added)])


def _both_rows(row, other):
    if row == other or other[0] == "all":
        return row
    return other if row[0] == "all" else ("none",)
