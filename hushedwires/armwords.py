"""Words that a pair needs under given moves, whatever the strengths of the spots."""

from hushedwires.beginnings import packed_steps, ways_behind
from hushedwires.errors import TooMany
from hushedwires.layouts import check_fitting, check_standing_pair
from hushedwires.plans import asked_hums
from hushedwires.words import each_word

MOST_GENERATED = 10
MOST_COUNTED = 12


def _steps_for(line, layout, pair, outside, most):
    """What each section adds to packed rows of sums, and the spot of the pair there."""
    if len(line) > most:
        raise TooMany(most)
    check_fitting(line, layout)
    check_standing_pair(layout, pair)
    steps = packed_steps(line, asked_hums(line, outside))
    return steps, [row[pair] for row in layout.places]


def arm_words(line, layout, pair, outside):
    """All words whose spot sums are 0 under each told hum, ascending."""
    steps, spots = _steps_for(line, layout, pair, outside, MOST_GENERATED)
    for word in each_word(len(line)):
        if _is_still(word, steps, spots):
            yield word


def _is_still(word, steps, spots):
    sums = {}
    for sign, step, spot in zip(word, steps, spots):
        sums[spot] = sums.get(spot, 0) + sign * step
    return not any(sums.values())


def count_arm_words(line, layout, pair, outside):
    """How many words have spot sums of 0 under each told hum."""
    steps, spots = _steps_for(line, layout, pair, outside, MOST_COUNTED)
    product = 1
    for spot in sorted(set(spots)):
        product = product * _still_rows(steps, spots, spot)
    # of each row of signs and its opposite one alone is a word
    return product // 2


def lone_spot(line, layout, pair, outside):
    """The first spot where the pair stands and no signs there make all sums 0, or None."""
    steps, spots = _steps_for(line, layout, pair, outside, MOST_COUNTED)
    for spot in sorted(set(spots)):
        if _still_rows(steps, spots, spot) == 0:
            return spot
    return None


def _still_rows(steps, spots, spot):
    """How many rows of signs for the sections on a spot have sums that are all 0."""
    ways = {0: 1}
    for step, standing in zip(steps, spots):
        if standing == spot:
            ways = ways_behind(ways, step)
    return ways.get(0, 0)
