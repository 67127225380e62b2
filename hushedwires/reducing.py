"""Rows of ratios reduced by one another, with the shares that made them."""

from hushedwires.ratios import ONE, ZERO, minus, over, times


class Reduced:
    """A sum of told rows that is 1 at its pivot, where the other reduced rows are 0.

    The number tells the told row that came in with it.
    """

    def __init__(self, number, pivot, row, shares):
        self.number = number
        self.pivot = pivot
        self.row = row
        self.shares = shares


def reduced_rows(rows):
    """Reduced rows that make just what the told rows make."""
    reduced = []
    for number, row in enumerate(rows):
        shares = tuple([ONE if other == number else ZERO for other in range(len(rows))])
        rest, rest_shares = rest_of(reduced, row, shares)
        pivot = first_unlike_zero(rest)
        if pivot is not None:
            new = _scaled(number, pivot, rest, rest_shares)
            reduced = [_cleared(old, new) for old in reduced] + [new]
    return reduced


def rest_of(reduced, row, shares):
    """The row and its shares less the reduced rows, so that it is 0 at all their pivots."""
    for one in reduced:
        factor = row[one.pivot]
        row = _less(row, factor, one.row)
        shares = _less(shares, factor, one.shares)
    return row, shares


def first_unlike_zero(row):
    """The first place at which the row is not 0, or None."""
    for place, one in enumerate(row):
        if one != ZERO:
            return place
    return None


def _scaled(number, pivot, row, shares):
    worth = row[pivot]
    return Reduced(number, pivot, tuple([over(one, worth) for one in row]),
                   tuple([over(share, worth) for share in shares]))


def _cleared(old, new):
    factor = old.row[new.pivot]
    return Reduced(old.number, old.pivot, _less(old.row, factor, new.row),
                   _less(old.shares, factor, new.shares))


def _less(row, factor, other):
    if factor == ZERO:
        return row
    return tuple([minus(one, times(factor, there)) for one, there in zip(row, other)])
