"""Where the noises of patterns stay within a bound, and how great they get.

At one rest the noises are whole numbers, told by the first one of themselves, of their
differences, of the differences of these, and so on. Where the differences do not change their
side of 0 the values only rise or only fall, so every answer is found by halving stretches.
"""

from hushedwires.errors import BadBound
from hushedwires.forms import check_extent, check_power, noise_differences
from hushedwires.ratios import is_from_zero


class QuietExtents:
    """For each rest of a period the runs of repeats at which the noise is within a bound."""

    def __init__(self, period, rows):
        self.period = period
        self.rows = rows

    def __eq__(self, other):
        return isinstance(other, QuietExtents) and self.period == other.period and self.rows == other.rows

    def holds(self, extent):
        """Whether the noise is within the bound at an extent."""
        check_extent(extent)
        repeats, rest = divmod(extent, self.period)
        return any([first <= repeats and (last is None or repeats <= last) for first, last in self.rows[rest]])

    def last_extent(self):
        """The greatest told extent, 0 if there is none, None if a run is endless."""
        greatest = 0
        for rest, runs in enumerate(self.rows):
            for _, last in runs:
                if last is None:
                    return None
                greatest = max(greatest, last * self.period + rest)
        return greatest


class Reached:
    """The greatest size of a noise and the first extent that has it."""

    def __init__(self, amount, extent):
        self.amount = amount
        self.extent = extent

    def __eq__(self, other):
        return isinstance(other, Reached) and self.amount == other.amount and self.extent == other.extent


def quiet_extents(pattern, power, bound):
    """The extents at which the noise under a power is from -bound to bound."""
    check_power(power)
    if not is_from_zero(bound):
        raise BadBound()
    # noises are whole numbers
    widest = bound[0] // bound[1]
    rows = []
    for rest in range(pattern.period):
        runs = quiet_runs(_differences_of(pattern, power, rest), widest)
        rows.append(tuple(_without_none(runs) if rest == 0 else runs))
    return QuietExtents(pattern.period, tuple(rows))


def _without_none(runs):
    """The runs less the repeats 0, as no section is no extent."""
    return [(max(first, 1), last) for first, last in runs if last is None or last > 0]


def loud_from(pattern, power, bound):
    """The least extent from which on the noise is beyond the bound, or None."""
    last = quiet_extents(pattern, power, bound).last_extent()
    return None if last is None else last + 1


def greatest_upto(pattern, power, extent):
    """The greatest size of the noise up to an extent."""
    check_power(power)
    check_extent(extent)
    best = None
    for rest in range(pattern.period):
        first = 1 if rest == 0 else 0
        last = (extent - rest) // pattern.period
        differences = _differences_of(pattern, power, rest)
        for repeats in turns_within(differences, first, last):
            found = (abs(_value_at(differences, repeats)), -(repeats * pattern.period + rest))
            best = found if best is None else max(best, found)
    return Reached((best[0], 1), -best[1])


def turns_within(differences, first, last):
    """Repeats from first to last among which the first one with the greatest size is."""
    if first > last:
        return []
    # a turn stands where a plateau begins, so of equal values the first one is here
    return [first, last] + [turn for turn in _turns_of(differences) if first < turn < last]


def _differences_of(pattern, power, rest):
    """The differences of the noises up to the last one that is not 0."""
    differences = noise_differences(pattern, power, rest)
    while len(differences) > 1 and differences[-1] == 0:
        differences = differences[:-1]
    return differences


def _value_at(differences, repeats):
    """The value at some repeats: the sum of each first difference times "repeats over its number"."""
    value = 0
    ways = 1
    for number, one in enumerate(differences):
        value = value + one * ways
        ways = ways * (repeats - number) // (number + 1)
    return value


def _turns_of(differences):
    """The starts of stretches on each of which the values only rise or only fall."""
    slopes = differences[1:]
    turns = [0]
    if len(slopes) > 1:
        for low, high in _stretches_of(slopes):
            side = _side_of(slopes, low, high)
            if side * _value_at(slopes, low) < 0:
                turn = _first_reaching(slopes, side, 0, low, high)
                if high is None or turn <= high:
                    turns.append(turn)
    return turns


def _stretches_of(differences):
    """The stretches: each but the last one, which has no end, ends where the next begins."""
    turns = _turns_of(differences)
    return list(zip(turns, turns[1:] + [None]))


def _side_of(differences, low, high):
    """-1 if the values fall on a stretch, 1 if they rise or stay."""
    change = differences[-1] if high is None else _value_at(differences, high) - _value_at(differences, low)
    return -1 if change < 0 else 1


def quiet_runs(differences, widest):
    """The runs of repeats, from 0 on, at which the size of the value is at most the widest."""
    if len(differences) == 1:
        return [(0, None)] if abs(differences[0]) <= widest else []
    runs = []
    for low, high in _stretches_of(differences):
        side = _side_of(differences, low, high)
        first = _first_reaching(differences, side, -widest, low, high)
        behind = _first_reaching(differences, side, widest + 1, low, high)
        # a run that goes on where stretches meet has their common end in both of them
        if first < behind and runs and first == runs[-1][1]:
            runs[-1] = (runs[-1][0], behind - 1)
        elif first < behind:
            runs.append((first, behind - 1))
    return runs


def _first_reaching(differences, side, level, low, high):
    """The first repeats of a stretch at which side * value, which rises, is at least the level.

    One beyond the stretch if there are none; a stretch without end has some.
    """
    width = 1
    while high is None:
        if side * _value_at(differences, low + width) >= level:
            high = low + width
        width = width * 2
    if side * _value_at(differences, high) < level:
        return high + 1
    while low < high:
        middle = (low + high) // 2
        if side * _value_at(differences, middle) >= level:
            high = middle
        else:
            low = middle + 1
    return low
