"""Hums split into a level, a share for each pair of an upright plan, and a rest."""

from hushedwires.errors import NotUpright
from hushedwires.hums import level_hum, noise_of
from hushedwires.lines import check_hum
from hushedwires.plans import Outside, first_heard
from hushedwires.ratios import minus, negative, over, plus, sum_of, sum_of_products, times
from hushedwires.spans import Span


class Split:
    """The level of a hum, its shares of the words of a plan, and the rest."""

    def __init__(self, level, shares, rest):
        self.level = level
        self.shares = shares
        self.rest = rest

    def __eq__(self, other):
        return (isinstance(other, Split) and self.level == other.level
                and self.shares == other.shares and self.rest == other.rest)


def _check_upright(plan):
    level = Span([level_hum(plan.line)])
    heard = first_heard(plan, level, level)
    if heard is not None:
        raise NotUpright(heard.pair, None if isinstance(heard, Outside) else heard.other)


def split_hum(plan, hum):
    """The level, the shares and the rest that add up to the hum."""
    hum = check_hum(len(plan.line), hum)
    _check_upright(plan)
    whole = sum_of(plan.line.lengths)
    level = over(sum_of_products(plan.line.lengths, hum), whole)
    shares = tuple([over(noise_of(plan.line, word, hum), whole) for word in plan.words])
    rest = tuple([minus(entry, _entry_of(level, shares, plan.words, section))
                  for section, entry in enumerate(hum)])
    return Split(level, shares, rest)


def _entry_of(level, shares, words, section):
    entry = level
    for share, word in zip(shares, words):
        entry = plus(entry, share if word[section] == 1 else negative(share))
    return entry


def unheard_of(plan, hum):
    """The sum of the lengths times the strength of the rest, without the rest itself."""
    hum = check_hum(len(plan.line), hum)
    _check_upright(plan)
    squares = [times(entry, entry) for entry in hum]
    unheard = times(sum_of(plan.line.lengths), sum_of_products(plan.line.lengths, squares))
    heard = [sum_of_products(plan.line.lengths, hum)] + [noise_of(plan.line, word, hum) for word in plan.words]
    return minus(unheard, sum_of_products(heard, heard))
