"""Shares that keep sums of products at 0 or above, found one share after another.

An asking is a couple of rows: coefficients, whose sum of products with the shares must not
be below 0, and weights, none below 0, by which the first askings add up to this one.
"""

from hushedwires.ratios import HALF, ONE, ZERO, compare, minus, negative, over, plus, times


def first_askings(rows):
    """The askings that no row has a sum of products below 0."""
    askings = []
    for number, row in enumerate(rows):
        weights = tuple([ONE if other == number else ZERO for other in range(len(rows))])
        askings.append((tuple(row), weights))
    return askings


def asking_stages(askings, many):
    """What is asked of all shares, of all but the last, and so on, of the first alone."""
    stages = [askings]
    for _ in range(many - 1):
        rising, falling, still = _parted(stages[-1])
        joined = [_joined(one, other) for one in rising for other in falling]
        stages.append([(row[:-1], weights) for row, weights in still + joined])
    return stages


def _parted(askings):
    rising = [asking for asking in askings if asking[0][-1][0] > 0]
    falling = [asking for asking in askings if asking[0][-1][0] < 0]
    still = [asking for asking in askings if asking[0][-1][0] == 0]
    return rising, falling, still


def _joined(rising, falling):
    up = rising[0][-1]
    down = negative(falling[0][-1])
    return (_weighed(rising[0], down, falling[0], up), _weighed(rising[1], down, falling[1], up))


def _weighed(row, factor, other, against):
    return tuple([plus(times(one, factor), times(there, against)) for one, there in zip(row, other)])


def inner_shares(stages):
    """Shares that keep every asking, with more than 0 wherever any shares that keep all do.

    The middle of what is left for each share is never at an end that could be left.
    """
    shares = []
    for askings in stages[::-1]:
        shares = shares + [_inner_share(askings, shares)]
    return tuple(shares)


def _inner_share(askings, shares):
    low = None
    high = None
    for row, _ in askings:
        if row[-1][0] > 0:
            end = _end_of(row, shares)
            low = end if low is None or compare(end, low) > 0 else low
        if row[-1][0] < 0:
            end = _end_of(row, shares)
            high = end if high is None or compare(end, high) < 0 else high
    if low is None and high is None:
        return ZERO
    if high is None:
        return plus(low, ONE)
    if low is None:
        return minus(high, ONE)
    return times(HALF, plus(low, high))


def _end_of(row, shares):
    total = ZERO
    for coefficient, share in zip(row, shares):
        total = plus(total, times(coefficient, share))
    return negative(over(total, row[-1]))


def widest_weights(askings, count):
    """Weights by which the first askings add up to 0, above 0 wherever any such weights are."""
    rising, falling, still = _parted(askings)
    joined = []
    if rising and falling:
        joined = [_joined(one, falling[0]) for one in rising]
        joined = joined + [_joined(rising[0], other) for other in falling[1:]]
    total = (ZERO,) * count
    for _, weights in still + joined:
        # rows that reach nothing new would only make the numbers longer
        if any([there == ZERO and weight != ZERO for there, weight in zip(total, weights)]):
            total = tuple([plus(there, weight) for there, weight in zip(total, weights)])
    return total
