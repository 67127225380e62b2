"""Limits: which hums can come, and the greatest hum through known values."""

from hushedwires.errors import BadFactor, BadLimits, BadValues, NoPole, NoSection, OtherLine
from hushedwires.lines import MOST_SECTIONS, check_hum
from hushedwires.ratios import (
    ONE, ZERO, compare, is_from_zero, is_ratio, is_row, is_whole, minus, plus, size_of, times)


class Limits:
    """A most for each section and a step for each pole; None sets no limit."""

    def __init__(self, mosts, steps):
        if not is_row(mosts, 1, MOST_SECTIONS):
            raise BadLimits(0, "mosts")
        for index, most in enumerate(mosts):
            if not _is_limit(most):
                raise BadLimits(index, "most")
        if not is_row(steps, len(mosts) - 1, len(mosts) - 1):
            raise BadLimits(0, "steps")
        for index, step in enumerate(steps):
            if not _is_limit(step):
                raise BadLimits(index, "step")
        self.mosts = tuple(mosts)
        self.steps = tuple(steps)

    @staticmethod
    def alike(sections, most, step):
        """One most and one step everywhere."""
        if not is_whole(sections, 1, MOST_SECTIONS):
            raise BadLimits(0, "mosts")
        if not _is_limit(most):
            raise BadLimits(0, "most")
        if not _is_limit(step):
            raise BadLimits(0, "step")
        return Limits([most] * sections, [step] * (sections - 1))

    @property
    def free_poles(self):
        """The ends of the line and the poles without step."""
        return _free_poles(self.steps)

    @property
    def free_stretches(self):
        """The couples of neighbours among the free poles without a most between them."""
        poles = _free_poles(self.steps)
        return tuple([(low, high) for low, high in zip(poles, poles[1:])
                      if all([most is None for most in self.mosts[low:high]])])

    def __len__(self):
        return len(self.mosts)

    def __eq__(self, other):
        return isinstance(other, Limits) and self.mosts == other.mosts and self.steps == other.steps

    def with_most(self, section, most):
        """The limits with another most for one section."""
        if not is_whole(section, 0, len(self.mosts) - 1):
            raise NoSection(section)
        return Limits(self.mosts[:section] + (most,) + self.mosts[section + 1:], self.steps)

    def with_step(self, pole, step):
        """The limits with another step for one pole."""
        if not is_whole(pole, 1, len(self.mosts) - 1):
            raise NoPole(pole)
        return Limits(self.mosts, self.steps[:pole - 1] + (step,) + self.steps[pole:])

    def grown(self, factor):
        """The limits with all mosts and steps times a factor."""
        if not is_from_zero(factor):
            raise BadFactor()
        return Limits([_grown(most, factor) for most in self.mosts],
                      [_grown(step, factor) for step in self.steps])

    def both(self, other):
        """The limits that let just the hums which these and the others let."""
        if len(self.mosts) != len(other.mosts):
            raise OtherLine()
        return Limits(_lesser_entries(self.mosts, other.mosts),
                      _lesser_entries(self.steps, other.steps))

    def backward(self):
        """The limits of the line walked from its other end."""
        return Limits(self.mosts[::-1], self.steps[::-1])


class Clash:
    """Two known sections, or one alone, whose values no hum within limits has."""

    def __init__(self, first, second):
        self.first = first
        self.second = second

    def __eq__(self, other):
        return isinstance(other, Clash) and self.first == other.first and self.second == other.second


def _is_limit(thing):
    return thing is None or is_from_zero(thing)


def _free_poles(steps):
    return (0,) + tuple([index + 1 for index, step in enumerate(steps) if step is None]) + (len(steps) + 1,)


def _grown(limit, factor):
    return None if limit is None else times(limit, factor)


def _sum(one, other):
    return None if one is None or other is None else plus(one, other)


def _is_above(one, other):
    # None is greater than each ratio
    if other is None:
        return False
    return one is None or compare(one, other) > 0


def _lesser(one, other):
    return other if _is_above(one, other) else one


def _lesser_entries(row, other):
    return [_lesser(one, there) for one, there in zip(row, other)]


def check_limits(line, limits):
    """The limits, if they are made for the line's count of sections."""
    if len(limits) != len(line):
        raise OtherLine()
    return limits


def within_limits(hum, limits):
    """None, or the first limit that the hum breaks."""
    hum = check_hum(len(limits), hum)
    for section, most in enumerate(limits.mosts):
        if most is not None and compare(size_of(hum[section]), most) > 0:
            return ("most", section)
    for index, step in enumerate(limits.steps):
        change = size_of(minus(hum[index + 1], hum[index]))
        if step is not None and compare(change, step) > 0:
            return ("step", index + 1)
    return None


def _reached(tops, steps):
    """The greatest hum nowhere above its top, with None where nothing holds it."""
    row = list(tops)
    for pole in range(1, len(row)):
        row[pole] = _lesser(row[pole], _sum(row[pole - 1], steps[pole - 1]))
    for pole in range(len(row) - 1, 0, -1):
        row[pole - 1] = _lesser(row[pole - 1], _sum(row[pole], steps[pole - 1]))
    return row


def tighten(limits):
    """The least limits that let the same hums."""
    mosts = _reached(limits.mosts, limits.steps)
    sums = [_sum(one, other) for one, other in zip(mosts, mosts[1:])]
    return Limits(mosts, _lesser_entries(limits.steps, sums))


def let_same(one, other):
    """Whether just the same hums are within both limits."""
    if len(one) != len(other):
        raise OtherLine()
    return tighten(one) == tighten(other)


def let_more(one, other):
    """None, or a hum that is within the first limits and not within the others."""
    if len(one) != len(other):
        raise OtherLine()
    tight = tighten(one)
    for section, most in enumerate(tight.mosts):
        if _is_above(most, other.mosts[section]):
            value = plus(other.mosts[section], ONE) if most is None else most
            return hum_through(one, [(section, value)])
    for index, step in enumerate(tight.steps):
        if _is_above(step, other.steps[index]):
            change = plus(other.steps[index], ONE) if step is None else step
            # the part that the section ahead of the pole cannot hold lies below 0 behind it
            value = _lesser(tight.mosts[index], change)
            return hum_through(one, [(index, value), (index + 1, minus(value, change))])
    return None


def check_known(limits, known):
    """The known values as a tuple of couples."""
    if not is_row(known, 0, len(limits)):
        raise BadValues(0, "many")
    couples = []
    for index, couple in enumerate(known):
        if not is_row(couple, 2, 2) or not is_whole(couple[0], 0, len(limits) - 1):
            raise BadValues(index, "value")
        if not is_ratio(couple[1]):
            raise BadValues(index, "value")
        if couples and couple[0] <= couples[-1][0]:
            raise BadValues(index, "rising")
        couples.append(tuple(couple))
    return tuple(couples)


def hum_through(limits, known):
    """The greatest hum within limits that keeps known values, or their first Clash."""
    known = check_known(limits, known)
    clash = clash_of(limits, known)
    if clash is not None:
        return clash
    tops = list(limits.mosts)
    for section, value in known:
        tops[section] = value
    return tuple([ZERO if top is None else top for top in _reached(tops, limits.steps)])


def clash_of(limits, known):
    """The first Clash of checked known values, or None."""
    mosts = _reached(limits.mosts, limits.steps)
    for section, value in known:
        if _is_above(size_of(value), mosts[section]):
            return Clash(section, section)
    for number, (first, value) in enumerate(known):
        for second, other in known[number + 1:]:
            if _is_above(size_of(minus(other, value)), _way_between(limits, first, second)):
                return Clash(first, second)
    return None


def _way_between(limits, first, second):
    total = ZERO
    for step in limits.steps[first:second]:
        total = _sum(total, step)
    return total
