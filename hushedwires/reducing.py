"""Rows of ratios reduced by one another, with the shares that made them."""

from math import gcd

from hushedwires.ratios import ONE, ZERO, common_bottom, minus, over, times

PRIME = (1 << 61) - 1

class Reduced:
    """A sum of told rows that is 1 at its pivot, where the other reduced rows are 0.

    The number tells the told row that came in with it.
    """

    def __init__(self, number, pivot, row, shares):
        self.number = number
        self.pivot = pivot
        self.row = row
        self.shares = shares


def reduced_rows(rows):
    """Reduced rows that make just what the told rows make."""
    reduced = []
    for number, row in enumerate(rows):
        shares = tuple([ONE if other == number else ZERO for other in range(len(rows))])
        rest, rest_shares = rest_of(reduced, row, shares)
        pivot = first_unlike_zero(rest)
        if pivot is not None:
            new = _scaled(number, pivot, rest, rest_shares)
            reduced = [_cleared(old, new) for old in reduced] + [new]
    return reduced


def rest_of(reduced, row, shares):
    """The row and its shares less the reduced rows, so that it is 0 at all their pivots."""
    for one in reduced:
        factor = row[one.pivot]
        row = _less(row, factor, one.row)
        shares = _less(shares, factor, one.shares)
    return row, shares


def first_unlike_zero(row):
    """The first place at which the row is not 0, or None."""
    for place, one in enumerate(row):
        if one != ZERO:
            return place
    return None


def _scaled(number, pivot, row, shares):
    worth = row[pivot]
    return Reduced(number, pivot, tuple([over(one, worth) for one in row]),
                   tuple([over(share, worth) for share in shares]))


def _cleared(old, new):
    factor = old.row[new.pivot]
    return Reduced(old.number, old.pivot, _less(old.row, factor, new.row),
                   _less(old.shares, factor, new.shares))


def _less(row, factor, other):
    if factor == ZERO:
        return row
    return tuple([minus(one, times(factor, there)) for one, there in zip(row, other)])


def rank_of_rows(rows):
    """How many rows there are in a largest choice of which none is a sum of the others."""
    if not rows:
        return 0
    wholes = [_primitive(row) for row in rows]
    most = min(len(rows), len(rows[0]))
    # the rank of remainders is never above the rank, and needs no long numbers
    if _eliminated_rank(wholes, PRIME) == most:
        return most
    return _eliminated_rank(wholes, None)


def _eliminated_rank(rows, modulus):
    rows = [_shortened(row, modulus) for row in rows]
    rank = 0
    for place in range(len(rows[0])):
        pivots = [row for row in rows if row[place] != 0]
        if pivots:
            rank += 1
            rows = [row for row in rows if row[place] == 0]
            rows = rows + [_shortened(_cancelled(place, row, pivots[0]), modulus) for row in pivots[1:]]
    return rank


def _cancelled(place, row, pivot):
    return [pivot[place] * one - row[place] * other for one, other in zip(row, pivot)]


def _shortened(wholes, modulus):
    """The remainders, or, without a modulus, the whole numbers over their common divisor."""
    if modulus is not None:
        return [one % modulus for one in wholes]
    common = 0
    for one in wholes:
        common = gcd(common, one)
    return [one // common for one in wholes] if common > 1 else wholes


def _primitive(row):
    bottom = common_bottom(row)
    return _shortened([one[0] * (bottom // one[1]) for one in row], None)
