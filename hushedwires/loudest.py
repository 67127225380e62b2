"""The greatest noise of a word under limits, with the sums that bound it."""

from hushedwires.errors import BadSums
from hushedwires.hums import noise_of
from hushedwires.levels import WholeCase, hum_of_chain, least_chain
from hushedwires.limits import check_known, check_limits, clash_of, within_limits
from hushedwires.ratios import ZERO, compare, is_ratio, is_ratio_row, make_ratio
from hushedwires.running import check_sums, running_of, sums_cost
from hushedwires.words import check_word


class Greatest:
    """The greatest noise, an allowed hum that has it and sums that cost no more."""

    def __init__(self, amount, hum, sums):
        self.amount = amount
        self.hum = hum
        self.sums = sums

    def __eq__(self, other):
        return (isinstance(other, Greatest) and self.amount == other.amount
                and self.hum == other.hum and self.sums == other.sums)


class Endless:
    """A hum with a noise above 0 that can be added to any allowed hum, however often."""

    def __init__(self, hum):
        self.hum = hum

    def __eq__(self, other):
        return isinstance(other, Endless) and self.hum == other.hum


def greatest_noise(line, word, limits, *, known=()):
    """The Greatest noise of allowed hums, Endless, or a Clash of known values."""
    word = check_word(line, word)
    check_limits(line, limits)
    known = check_known(limits, known)
    clash = clash_of(limits, known)
    if clash is not None:
        return clash
    endless = endless_hum(line, word, limits, known)
    if endless is not None:
        return Endless(endless)
    return _greatest(running_of(line, word), limits, known)


def endless_hum(line, word, limits, known):
    """A hum along a free stretch that makes the noise of the word endless, or None."""
    heights = running_of(line, word)
    for low, high in limits.free_stretches:
        is_known = any([low <= section < high for section, _ in known])
        side = compare(heights[high], heights[low])
        if side != 0 and not is_known:
            return (ZERO,) * low + ((side, 1),) * (high - low) + (ZERO,) * (len(line) - high)
    return None


def _greatest(running, limits, known):
    case = WholeCase(running, limits, known)
    cost, chain = least_chain(case.heights, case.mosts, case.steps, case.known)
    sums = [height - level for height, level in zip(case.heights, chain)]
    return Greatest(make_ratio(cost, case.length_bottom * case.hum_bottom),
                    tuple([make_ratio(entry, case.hum_bottom) for entry in hum_of_chain(case, chain)]),
                    tuple([make_ratio(one, case.length_bottom) for one in sums]))


def greatest_fault(line, word, limits, greatest, *, known=()):
    """What is wrong with a told Greatest, or None."""
    word = check_word(line, word)
    check_limits(line, limits)
    known = check_known(limits, known)
    if not is_ratio(greatest.amount):
        return "amount"
    if not _is_hum(line, greatest.hum):
        return "hum"
    if within_limits(greatest.hum, limits) is not None:
        return "limits"
    if not all([greatest.hum[section] == value for section, value in known]):
        return "known"
    if noise_of(line, word, greatest.hum) != greatest.amount:
        return "noise"
    try:
        sums = check_sums(line, greatest.sums)
    except BadSums:
        return "sums"
    return None if sums_cost(line, word, limits, sums, known=known) == greatest.amount else "cost"


def _is_hum(line, thing):
    return isinstance(thing, tuple) and is_ratio_row(thing, len(line), len(line))


def endless_fault(line, word, limits, endless, *, known=()):
    """What is wrong with a told Endless, or None."""
    word = check_word(line, word)
    check_limits(line, limits)
    known = check_known(limits, known)
    hum = endless.hum
    if not _is_hum(line, hum):
        return "hum"
    if any([most is not None and entry != ZERO for most, entry in zip(limits.mosts, hum)]):
        return "limits"
    if any([step is not None and one != other for step, one, other in zip(limits.steps, hum, hum[1:])]):
        return "limits"
    if any([hum[section] != ZERO for section, _ in known]):
        return "known"
    return None if compare(noise_of(line, word, hum), ZERO) > 0 else "noise"
