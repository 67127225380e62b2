"""Lots: ascending tuples of unlike whole numbers."""


def lots_upto(low, high, most):
    """All lots of at most so many numbers from low to high, shorter ones first, else ascending."""
    lots = [()]
    longest = [()]
    for _ in range(most):
        longest = [lot + (number,) for lot in longest
                   for number in range(lot[-1] + 1 if lot else low, high + 1)]
        lots = lots + longest
    return tuple(lots)


def in_each(lots):
    """The numbers that are in each of the lots; none where there is no lot."""
    shared = lots[0] if lots else ()
    return tuple([number for number in shared if all([number in lot for lot in lots])])


def is_part(lot, other):
    """Whether the lot is a proper part of the other one."""
    return len(lot) < len(other) and all([number in other for number in lot])
