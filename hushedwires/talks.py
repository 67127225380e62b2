"""Further talks, which go over two pairs as legs."""

from hushedwires.beginnings import packed_steps
from hushedwires.errors import BadSpots, NoPair, NoSwap, TooMany
from hushedwires.hums import noise_parts
from hushedwires.layouts import (
    Layout, check_fitting, check_legs, check_plan_fitting, check_standing_pair, spot_couples, sums_by_couple,
    sums_by_spot)
from hushedwires.lines import check_hum
from hushedwires.plans import asked_hums
from hushedwires.ratios import ZERO, is_whole, minus, sum_of_products
from hushedwires.strengths import check_strengths

MOST_SECTIONS_FOR = {2: 8, 3: 5}


class TalkHeard:
    """A difference of stand sums that is not 0, on a spot under a told hum."""

    def __init__(self, spot, hum, difference):
        self.spot = spot
        self.hum = hum
        self.difference = difference

    def __eq__(self, other):
        return (isinstance(other, TalkHeard) and self.spot == other.spot
                and self.hum == other.hum and self.difference == other.difference)


class ReachHeard:
    """What a third pair hears of a talk: a difference that is not 0, on a couple of spots."""

    def __init__(self, spots, hum, difference):
        self.spots = spots
        self.hum = hum
        self.difference = difference

    def __eq__(self, other):
        return (isinstance(other, ReachHeard) and self.spots == other.spots
                and self.hum == other.hum and self.difference == other.difference)


def stand_sums(line, layout, pair, hum):
    """For each spot the sum of length * hum over the sections in which the pair stands there."""
    check_fitting(line, layout)
    check_standing_pair(layout, pair)
    return _stand_sums(line, layout, pair, check_hum(len(line), hum))


def _stand_sums(line, layout, pair, hum):
    # both wires of a leg bear the talk alike, so no sign is turned
    return sums_by_spot(layout, pair, noise_parts(line, (1,) * len(line), hum))


def _differences(row, other):
    return [minus(one, against) for one, against in zip(row, other)]


def _talk_sums(line, layout, legs, hum):
    low, high = legs
    return _differences(_stand_sums(line, layout, low, hum), _stand_sums(line, layout, high, hum))


def talk_noise(line, layout, legs, hum, strengths):
    """What a talk over two legs hears of a hum with a strength for each spot."""
    check_fitting(line, layout)
    legs = check_legs(layout, legs)
    hum = check_hum(len(line), hum)
    strengths = check_strengths(layout.spots, strengths)
    return sum_of_products(strengths, _talk_sums(line, layout, legs, hum))


def further_talk(line, layout, legs, outside):
    """The first difference by which a talk over two legs is heard, or None."""
    check_fitting(line, layout)
    legs = check_legs(layout, legs)
    for number, hum in enumerate(asked_hums(line, outside)):
        for spot, difference in enumerate(_talk_sums(line, layout, legs, hum)):
            if difference != ZERO:
                return TalkHeard(spot, number, difference)
    return None


def talk_lots(line, layout, outside):
    """The pairs in lots; a talk over two pairs is hushed just if they are in one lot."""
    check_fitting(line, layout)
    hums = asked_hums(line, outside)
    lots = {}
    for pair in range(layout.pairs):
        sums = tuple([_stand_sums(line, layout, pair, hum) for hum in hums])
        lots[sums] = lots.get(sums, ()) + (pair,)
    return tuple(lots.values())


def talk_reaches(plan, layout, legs, pair, between):
    """The first difference by which a third pair hears a talk, or None."""
    check_plan_fitting(plan, layout)
    low, high = check_legs(layout, legs)
    check_standing_pair(layout, pair)
    if pair in (low, high):
        raise NoPair(pair)
    for number, hum in enumerate(asked_hums(plan.line, between)):
        parts = noise_parts(plan.line, plan.words[pair], hum)
        differences = _differences(sums_by_couple(layout, pair, low, parts),
                                   sums_by_couple(layout, pair, high, parts))
        for spots, difference in zip(spot_couples(layout.spots), differences):
            if difference != ZERO:
                return ReachHeard(spots, number, difference)
    return None


def swap_word(layout):
    """The word that is 1 where two pairs stand on two spots as they do at the beginning."""
    if layout.pairs != 2 or layout.spots != 2:
        raise NoSwap()
    return tuple([1 if row == layout.places[0] else -1 for row in layout.places])


def least_talk(line, spots, outside):
    """The layout of two pairs with the fewest moves that hushes a talk over both, or None."""
    if not is_whole(spots, 2, 3):
        raise BadSpots()
    most = MOST_SECTIONS_FOR[spots]
    if len(line) > most:
        raise TooMany(most)
    steps = packed_steps(line, asked_hums(line, outside))
    rows = [(one, other) for one in range(spots) for other in range(spots) if one != other]
    # of beginnings with the same sums and the same last row the best one is enough
    best = {(_moved_sums((0,) * spots, row, steps[0]), row): (0, (row,)) for row in rows}
    for step in steps[1:]:
        best = _best_longer(best, rows, step)
    hushed = [told for (sums, _), told in best.items() if not any(sums)]
    return Layout(spots, min(hushed)[1]) if hushed else None


def _best_longer(best, rows, step):
    """By sums and last row the fewest moves and the least places of beginnings one section longer."""
    longer = {}
    for (sums, last), (moves, places) in best.items():
        for row in rows:
            state = (_moved_sums(sums, row, step), row)
            told = (moves + _moves_between(last, row), places + (row,))
            if state not in longer or told < longer[state]:
                longer[state] = told
    return longer


def _moved_sums(sums, row, step):
    """The packed differences of stand sums with one section more."""
    moved = list(sums)
    moved[row[0]] = moved[row[0]] + step
    moved[row[1]] = moved[row[1]] - step
    return tuple(moved)


def _moves_between(row, other):
    return len([spot for spot, behind in zip(row, other) if spot != behind])
