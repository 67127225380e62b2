"""Roundabouts: what pairs hear of one another by way of a third pair."""

from hushedwires.errors import BadWay
from hushedwires.plans import check_pair
from hushedwires.ratios import ZERO, common_bottom, make_ratio
from hushedwires.words import check_word


class Round:
    """Three pairs and what the first hears of the last by way of the one between."""

    def __init__(self, first, way, last, amount):
        self.first = first
        self.way = way
        self.last = last
        self.amount = amount

    def __eq__(self, other):
        return (isinstance(other, Round) and self.first == other.first and self.way == other.way
                and self.last == other.last and self.amount == other.amount)


def roundabout_of(line, one, other):
    """The sum over all couples of sections, each section with itself taken half."""
    one = check_word(line, one)
    other = check_word(line, other)
    bottom = common_bottom(line.lengths)
    running = 0
    total = 0
    for length, sign, against in zip(line.lengths, one, other):
        whole = length[0] * (bottom // length[1])
        total = total + against * whole * (2 * running + sign * whole)
        running = running + sign * whole
    return make_ratio(total, 2 * bottom * bottom)


def by_way(plan, first, way, last):
    """What a pair hears of another one, or of itself, by way of a third."""
    check_pair(plan, first)
    check_pair(plan, way)
    check_pair(plan, last)
    if way in (first, last):
        raise BadWay()
    return _amount_of(plan, first, way, last)


def _amount_of(plan, first, way, last):
    return roundabout_of(plan.line, plan.product_at(first, way), plan.product_at(way, last))


def round_table(plan, first, last):
    """For each way between two pairs what the first hears of the last."""
    check_pair(plan, first)
    check_pair(plan, last)
    return tuple([(way, _amount_of(plan, first, way, last))
                  for way in range(len(plan)) if way not in (first, last)])


def first_round(plan):
    """The first Round of three unlike pairs whose amount is not 0, or None."""
    for first in range(len(plan)):
        for way in range(len(plan)):
            for last in range(len(plan)):
                if first not in (way, last) and way != last:
                    amount = _amount_of(plan, first, way, last)
                    if amount != ZERO:
                        return Round(first, way, last, amount)
    return None
