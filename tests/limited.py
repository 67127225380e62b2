"""The tests' own reckoning with limits, by going through whole hums where it can."""

from fractions import Fraction

from hushedwires.limits import Limits
from tests.reckon import fraction, random_ratio, ratio


def limit(number):
    return None if number is None else ratio(number)


def limits_from(mosts, steps):
    return Limits([limit(most) for most in mosts], [limit(step) for step in steps])


def number_of(one):
    return None if one is None else fraction(one)


def is_within(hum, limits, known=()):
    """Whether a row of numbers is an allowed hum."""
    mosts, steps = map(number_of, limits.mosts), map(number_of, limits.steps)
    return (all(most is None or -most <= entry <= most for entry, most in zip(hum, mosts))
            and all(step is None or -step <= behind - ahead <= step for ahead, behind, step in zip(hum, hum[1:], steps))
            and all(hum[section] == fraction(value) for section, value in known))


def whole_hums(limits, known, reach):
    """All allowed hums of whole numbers of a size up to the reach."""
    mosts, steps = [number_of(one) for one in limits.mosts], [number_of(one) for one in limits.steps]
    values = {section: fraction(value) for section, value in known}
    hums = [()]
    for section, most in enumerate(mosts):
        longer = []
        for hum in hums:
            for entry in range(-reach, reach + 1):
                if most is not None and abs(entry) > most:
                    continue
                if section in values and values[section] != entry:
                    continue
                if section and steps[section - 1] is not None and abs(entry - hum[-1]) > steps[section - 1]:
                    continue
                longer.append(hum + (entry,))
        hums = longer
    return hums


def way(limits, low, high):
    """The sum of the steps between two sections, or None."""
    steps = [number_of(one) for one in limits.steps[low:high]]
    return None if None in steps else sum(steps, Fraction(0))


def tight_mosts(limits):
    """The tightened mosts, each from all sections."""
    told = []
    for section in range(len(limits)):
        ends = []
        for other, most in enumerate(limits.mosts):
            between = way(limits, min(section, other), max(section, other))
            if most is not None and between is not None:
                ends.append(fraction(most) + between)
        told.append(min(ends) if ends else None)
    return told


def clash(limits, known):
    """The first couple of sections that clash, or None."""
    tight = tight_mosts(limits)
    for section, value in known:
        if tight[section] is not None and abs(fraction(value)) > tight[section]:
            return (section, section)
    for number, (first, value) in enumerate(known):
        for second, other in known[number + 1:]:
            between = way(limits, first, second)
            if between is not None and abs(fraction(value) - fraction(other)) > between:
                return (first, second)
    return None


def running(line, word):
    sums = [Fraction(0)]
    for length, sign in zip(line.lengths, word):
        sums.append(sums[-1] + fraction(length) * sign)
    return sums


def is_endless(line, word, limits, known):
    """Whether some free stretch without most and known section has unlike ends."""
    sums = running(line, word)
    poles = [0] + [pole for pole in range(1, len(line)) if limits.steps[pole - 1] is None] + [len(line)]
    held = {section for section, _ in known} | {k for k, most in enumerate(limits.mosts) if most is not None}
    return any(sums[low] != sums[high] and not held & set(range(low, high)) for low, high in zip(poles, poles[1:]))


def cost(line, word, limits, sums, known):
    """The cost of a row of numbers as sums, or None."""
    total = Fraction(0)
    values = {section: fraction(value) for section, value in known}
    for section, most in enumerate(limits.mosts):
        left = fraction(line.lengths[section]) * word[section] - (sums[section + 1] - sums[section])
        if section in values:
            total += values[section] * left
        elif most is not None:
            total += fraction(most) * abs(left)
        elif left:
            return None
    for pole in range(1, len(line)):
        step = limits.steps[pole - 1]
        if step is None and sums[pole]:
            return None
        total += 0 if step is None else fraction(step) * abs(sums[pole])
    return total


def random_limits(source, count, free=0.25, top=5, bottom=3):
    def one():
        return None if source.random() < free else random_ratio(source, 0, top, bottom)
    return Limits([one() for _ in range(count)], [one() for _ in range(count - 1)])


def whole_limits(source, count, free=0.3, top=2):
    return random_limits(source, count, free, top, 1)


def random_known(source, count, top=3, bottom=2):
    sections = [section for section in range(count) if source.random() < 0.4]
    return tuple((section, random_ratio(source, -top, top, bottom)) for section in sections)
