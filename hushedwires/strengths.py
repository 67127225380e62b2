"""What pairs hear on the spots of a cross-arm whose strengths are unknown."""

from hushedwires.errors import BadGroups, BadStrengths, NoPair
from hushedwires.hums import noise_parts
from hushedwires.layouts import (
    check_plan_fitting, check_standing_pair, spot_couples, sums_by_couple, sums_by_spot)
from hushedwires.lines import check_hum
from hushedwires.plans import asked_hums
from hushedwires.ratios import ONE, ZERO, compare, is_ratio, is_row, is_whole, sum_of, sum_of_products


class SpotHeard:
    """A sum outside that is not 0: of a pair on a spot, under a told hum."""

    def __init__(self, pair, spot, hum, noise):
        self.pair = pair
        self.spot = spot
        self.hum = hum
        self.noise = noise

    def __eq__(self, other):
        return (isinstance(other, SpotHeard) and self.pair == other.pair and self.spot == other.spot
                and self.hum == other.hum and self.noise == other.noise)


class CoupleHeard:
    """A sum between that is not 0: of two pairs on a couple of spots, under a told hum."""

    def __init__(self, pair, other, spots, hum, noise):
        self.pair = pair
        self.other = other
        self.spots = spots
        self.hum = hum
        self.noise = noise

    def __eq__(self, other):
        return (isinstance(other, CoupleHeard) and self.pair == other.pair and self.other == other.other
                and self.spots == other.spots and self.hum == other.hum and self.noise == other.noise)


class GroupHeard:
    """A sum outside that is not 0: of a pair on all spots of a group, under a told hum."""

    def __init__(self, pair, group, hum, noise):
        self.pair = pair
        self.group = group
        self.hum = hum
        self.noise = noise

    def __eq__(self, other):
        return (isinstance(other, GroupHeard) and self.pair == other.pair and self.group == other.group
                and self.hum == other.hum and self.noise == other.noise)


class StrengthRange:
    """The least and the greatest noise for strengths in a range, and strengths that meet them."""

    def __init__(self, least, greatest, least_strengths, greatest_strengths):
        self.least = least
        self.greatest = greatest
        self.least_strengths = least_strengths
        self.greatest_strengths = greatest_strengths

    def __eq__(self, other):
        return (isinstance(other, StrengthRange) and self.least == other.least
                and self.greatest == other.greatest
                and self.least_strengths == other.least_strengths
                and self.greatest_strengths == other.greatest_strengths)


def check_strengths(count, strengths):
    """So many strengths as a tuple."""
    if not is_row(strengths, count, count):
        raise BadStrengths(0)
    for index, one in enumerate(strengths):
        if not is_ratio(one):
            raise BadStrengths(index)
    return tuple(strengths)


def spot_sums(plan, layout, pair, hum):
    """For each spot the noise of a pair over the sections in which it stands there."""
    check_plan_fitting(plan, layout)
    check_standing_pair(layout, pair)
    return _spot_sums(plan, layout, pair, check_hum(len(plan.line), hum))


def _spot_sums(plan, layout, pair, hum):
    return sums_by_spot(layout, pair, noise_parts(plan.line, plan.words[pair], hum))


def couple_sums(plan, layout, pair, other, hum):
    """For each couple of spots the noise between two pairs over the sections in which they stand there."""
    check_plan_fitting(plan, layout)
    check_standing_pair(layout, pair)
    check_standing_pair(layout, other)
    if pair == other:
        raise NoPair(other)
    return _couple_sums(plan, layout, pair, other, check_hum(len(plan.line), hum))


def _couple_sums(plan, layout, pair, other, hum):
    return sums_by_couple(layout, pair, other, noise_parts(plan.line, plan.product_at(pair, other), hum))


def spot_noise(plan, layout, pair, hum, strengths):
    """What a pair hears of a hum with a strength for each spot."""
    sums = spot_sums(plan, layout, pair, hum)
    return sum_of_products(check_strengths(len(sums), strengths), sums)


def couple_noise(plan, layout, pair, other, hum, strengths):
    """What two pairs hear of one another with a strength for each couple of spots."""
    sums = couple_sums(plan, layout, pair, other, hum)
    return sum_of_products(check_strengths(len(sums), strengths), sums)


def arm_heard(plan, layout, outside, between):
    """The first sum that is heard at some strengths, or None."""
    check_plan_fitting(plan, layout)
    alone = asked_hums(plan.line, outside)
    paired = asked_hums(plan.line, between)
    heard = _first_spot_heard(plan, layout, alone)
    return _first_couple_heard(plan, layout, paired) if heard is None else heard


def _first_spot_heard(plan, layout, hums):
    for pair in range(len(plan)):
        for number, hum in enumerate(hums):
            for spot, noise in enumerate(_spot_sums(plan, layout, pair, hum)):
                if noise != ZERO:
                    return SpotHeard(pair, spot, number, noise)
    return None


def _first_couple_heard(plan, layout, hums):
    for pair in range(len(plan)):
        for other in range(pair + 1, len(plan)):
            for number, hum in enumerate(hums):
                sums = _couple_sums(plan, layout, pair, other, hum)
                for spots, noise in zip(spot_couples(layout.spots), sums):
                    if noise != ZERO:
                        return CoupleHeard(pair, other, spots, number, noise)
    return None


def heard_strengths(layout, heard):
    """The strengths at which just this noise is heard."""
    if isinstance(heard, SpotHeard):
        return tuple([ONE if spot == heard.spot else ZERO for spot in range(layout.spots)])
    return tuple([ONE if spots == heard.spots else ZERO for spots in spot_couples(layout.spots)])


def group_heard(plan, layout, outside, groups):
    """The first sum outside that is heard where the spots of a group have one strength, or None."""
    check_plan_fitting(plan, layout)
    hums = asked_hums(plan.line, outside)
    spots = layout.spots
    if not is_row(groups, spots, spots) or not all([is_whole(group, 0, spots - 1) for group in groups]):
        raise BadGroups()
    for pair in range(len(plan)):
        for number, hum in enumerate(hums):
            sums = _spot_sums(plan, layout, pair, hum)
            for group in range(spots):
                noise = sum_of([one for one, own in zip(sums, groups) if own == group])
                if noise != ZERO:
                    return GroupHeard(pair, group, number, noise)
    return None


def loudest_strengths(plan, layout, pair, hum, lows, highs):
    """The range of a pair's noise for all strengths from lows to highs."""
    sums = spot_sums(plan, layout, pair, hum)
    lows = check_strengths(len(sums), lows)
    highs = check_strengths(len(sums), highs)
    for spot, low in enumerate(lows):
        if compare(highs[spot], low) < 0:
            raise BadStrengths(spot)
    ends = [(low, high) if compare(one, ZERO) >= 0 else (high, low) for low, high, one in zip(lows, highs, sums)]
    least = tuple([end[0] for end in ends])
    greatest = tuple([end[1] for end in ends])
    return StrengthRange(sum_of_products(least, sums), sum_of_products(greatest, sums), least, greatest)
