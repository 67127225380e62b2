"""Bounds for the number of pairs that hold for all plans."""

from math import comb

from hushedwires.errors import BadCount
from hushedwires.hums import mark_hum, signed_hum
from hushedwires.layers import check_hums
from hushedwires.lines import MOST_SECTIONS
from hushedwires.ratios import is_whole
from hushedwires.reducing import rank_of_rows
from hushedwires.spans import check_degree


def pairs_bound(count, outside, between):
    """The most pairs that blocks at right angles leave room for; None if between is 0."""
    if not is_whole(count, 1, MOST_SECTIONS):
        raise BadCount()
    check_degree(outside)
    check_degree(between)
    bounds = [_bound_by(count, outside, height) for height in range(1, (between + 1) // 2 + 1)]
    return min(bounds) if bounds else None


def _bound_by(count, outside, height):
    level_height = max(0, outside + 1 - height)
    return (count - min(level_height, count)) // min(height, count)


def right_blocks(plan, low, high):
    """The powers of the marks, and for each pair these powers with its signs."""
    check_degree(low)
    check_degree(high)
    powers = [mark_hum(plan.line, power) for power in range(max(low, high))]
    blocks = [tuple(powers[:low])]
    for word in plan.words:
        blocks.append(tuple([signed_hum(word, hum) for hum in powers[:high]]))
    return tuple(blocks)


def rank_of(line, hums):
    """How many hums there are in a largest choice of which none is a sum of the others."""
    return rank_of_rows(check_hums(line, hums))


def plan_bar(count, degree):
    """The least j up to the degree for which "count over j" is no multiple of 4, or None."""
    if not is_whole(count, 1, MOST_SECTIONS):
        raise BadCount()
    check_degree(degree)
    for lower in range(1, degree + 1):
        if comb(count, lower) % 4 != 0:
            return lower
    return None
