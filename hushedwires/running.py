"""Running sums of words, rows of sums, and what they cost."""

from hushedwires.errors import BadSums, Beyond
from hushedwires.lines import check_hum
from hushedwires.limits import Limits, check_known, check_limits, within_limits
from hushedwires.ratios import (
    ONE, ZERO, compare, is_ratio, is_row, minus, negative, plus, size_of, sum_of, times)
from hushedwires.words import check_word


def running_of(line, word):
    """The running sums of a word, from 0 on."""
    sums = [ZERO]
    for part in _signed_lengths(line, check_word(line, word)):
        sums.append(plus(sums[-1], part))
    return tuple(sums)


def _signed_lengths(line, word):
    return [length if sign == 1 else negative(length) for length, sign in zip(line.lengths, word)]


def check_sums(line, sums):
    """A row of sums as a tuple."""
    count = len(line) + 1
    if not is_row(sums, count, count):
        raise BadSums(0, "many")
    for index, one in enumerate(sums):
        if not is_ratio(one):
            raise BadSums(index, "sum")
        if index in (0, count - 1) and one != ZERO:
            raise BadSums(index, "end")
    return tuple(sums)


def sums_cost(line, word, limits, sums, *, known=()):
    """The cost of a row of sums, or None if it has none."""
    word = check_word(line, word)
    check_limits(line, limits)
    sums = check_sums(line, sums)
    known = check_known(limits, known)
    parts = _all_parts(_left_over(line, word, sums), limits, sums, known)
    return None if parts is None else sum_of(parts)


def _left_over(line, word, sums):
    return [minus(part, minus(high, low))
            for part, low, high in zip(_signed_lengths(line, word), sums, sums[1:])]


def _all_parts(left, limits, sums, known):
    """The parts of the cost, sections first, then poles; None if some part has none."""
    values = {section: value for section, value in known}
    parts = []
    for section, most in enumerate(limits.mosts):
        if section in values:
            parts.append(times(values[section], left[section]))
        else:
            parts.append(_part_of(most, left[section]))
    for index, step in enumerate(limits.steps):
        parts.append(_part_of(step, sums[index + 1]))
    return None if None in parts else parts


def _part_of(limit, one):
    if limit is None:
        return ZERO if one == ZERO else None
    return times(limit, size_of(one))


def spare_parts(line, word, limits, hum, sums, *, known=()):
    """What each section and each pole adds to cost - noise, or None without a cost."""
    word = check_word(line, word)
    check_limits(line, limits)
    hum = check_hum(len(line), hum)
    sums = check_sums(line, sums)
    known = check_known(limits, known)
    _check_allowed(limits, hum, known)
    left = _left_over(line, word, sums)
    parts = _all_parts(left, limits, sums, known)
    if parts is None:
        return None
    taken = [times(one, entry) for one, entry in zip(left, hum)]
    for one, before, behind in zip(sums[1:], hum, hum[1:]):
        taken.append(times(one, minus(before, behind)))
    return tuple([minus(part, there) for part, there in zip(parts, taken)])


def _check_allowed(limits, hum, known):
    broken = within_limits(hum, limits)
    if broken is not None:
        raise Beyond(broken[0], broken[1])
    for section, value in known:
        if hum[section] != value:
            raise Beyond("known", section)


def never_louder(line, word, other):
    """None, or limits without mosts under which the word is louder than the other one."""
    sums = running_of(line, word)
    against = running_of(line, other)
    if against[-1] != ZERO:
        return None
    steps = [ZERO] * (len(line) - 1)
    if sums[-1] == ZERO:
        pole = _first_greater(sums, against)
        if pole is None:
            return None
        steps[pole - 1] = ONE
    return Limits([None] * len(line), steps)


def _first_greater(sums, against):
    for pole in range(1, len(sums) - 1):
        if compare(size_of(sums[pole]), size_of(against[pole])) > 0:
            return pole
    return None
