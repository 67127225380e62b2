"""Wishes for plans, and which of them a plan does not grant."""

from hushedwires.errors import BadWish
from hushedwires.limits import Limits
from hushedwires.loudest import Greatest, greatest_noise
from hushedwires.plans import MOST_PAIRS, Between, Outside, first_heard
from hushedwires.ratios import ZERO, compare, is_ratio, is_row, is_whole
from hushedwires.roundabouts import Round, by_way, first_round
from hushedwires.spans import MOST_TOLD, degree_span, heard_by
from hushedwires.words import crossings_of

MOST_WISHES = 5
MOST_ENTRIES = 4
MOST_ALL_CROSSINGS = 161
# how many entries behind the first one name pairs
NAMED = {"hushed": 1, "all hushed": 0, "apart": 2, "all apart": 0, "at most": 1, "round": 3, "all round": 0,
         "pairs": 0, "crossings": 0}


class Lacking:
    """A pair that a wish names and the plan does not have."""

    def __init__(self, pair):
        self.pair = pair

    def __eq__(self, other):
        return isinstance(other, Lacking) and self.pair == other.pair


class Broken:
    """The index of a wish that a plan does not grant, and why."""

    def __init__(self, index, why):
        self.index = index
        self.why = why

    def __eq__(self, other):
        return isinstance(other, Broken) and self.index == other.index and self.why == other.why


def _asks_degree(line, asked):
    return len(asked) == 1 and is_whole(asked[0], 1, MOST_TOLD)


def _asks_amount(line, asked):
    if len(asked) != 2 or not isinstance(asked[0], Limits):
        return False
    return len(asked[0]) == len(line) and is_ratio(asked[1])


def _asks_nothing(line, asked):
    return len(asked) == 0


def _asks_pairs(line, asked):
    return len(asked) == 1 and is_whole(asked[0], 1, MOST_PAIRS)


def _asks_crossings(line, asked):
    return len(asked) == 1 and is_whole(asked[0], 0, MOST_ALL_CROSSINGS)


# what is to stand behind the named pairs
ASKED = {"hushed": _asks_degree, "all hushed": _asks_degree, "apart": _asks_degree, "all apart": _asks_degree,
         "at most": _asks_amount, "round": _asks_nothing, "all round": _asks_nothing,
         "pairs": _asks_pairs, "crossings": _asks_crossings}


def _is_wish(line, thing):
    if not is_row(thing, 1, MOST_ENTRIES) or not isinstance(thing[0], str) or thing[0] not in NAMED:
        return False
    pairs, asked = _parts_of(thing)
    if len(pairs) < NAMED[thing[0]] or not all([is_whole(pair, 0, MOST_PAIRS - 1) for pair in pairs]):
        return False
    # a pair is not apart from itself, and no way of its own
    if any([pair == other for pair, other in zip(pairs, pairs[1:])]):
        return False
    is_asked = ASKED[thing[0]]
    return is_asked(line, asked)


def _parts_of(wish):
    """The pairs that a wish names, and what it asks of them."""
    behind = 1 + NAMED[wish[0]]
    return wish[1:behind], wish[behind:]


def check_wishes(line, wishes):
    """The 1 to 5 wishes for plans of a line as a tuple of tuples."""
    if not is_row(wishes, 1, MOST_WISHES):
        raise BadWish(0)
    for index, wish in enumerate(wishes):
        if not _is_wish(line, wish):
            raise BadWish(index)
    return tuple([tuple(wish) for wish in wishes])


def _why_not_hushed(plan, pairs, asked):
    heard = heard_by(plan.line, plan.words[pairs[0]], degree_span(plan.line, asked[0]))
    return None if heard is None else Outside(pairs[0], heard.hum, heard.noise)


def _why_not_all_hushed(plan, pairs, asked):
    return first_heard(plan, degree_span(plan.line, asked[0]), None)


def _why_not_apart(plan, pairs, asked):
    low, high = min(pairs), max(pairs)
    heard = heard_by(plan.line, plan.product_at(low, high), degree_span(plan.line, asked[0]))
    return None if heard is None else Between(low, high, heard.hum, heard.noise)


def _why_not_all_apart(plan, pairs, asked):
    return first_heard(plan, None, degree_span(plan.line, asked[0]))


def _why_louder(plan, pairs, asked):
    limits, amount = asked
    found = greatest_noise(plan.line, plan.words[pairs[0]], limits)
    if isinstance(found, Greatest) and compare(found.amount, amount) <= 0:
        return None
    return found


def _why_not_round(plan, pairs, asked):
    first, way, last = pairs
    amount = by_way(plan, first, way, last)
    return None if amount == ZERO else Round(first, way, last, amount)


def _why_not_all_round(plan, pairs, asked):
    return first_round(plan)


def _why_fewer(plan, pairs, asked):
    return None if len(plan) >= asked[0] else len(plan)


def _why_more_crossed(plan, pairs, asked):
    many = sum([len(crossings_of(word)) for word in plan.words])
    return None if many <= asked[0] else many


WHYS = {"hushed": _why_not_hushed, "all hushed": _why_not_all_hushed, "apart": _why_not_apart,
        "all apart": _why_not_all_apart, "at most": _why_louder, "round": _why_not_round,
        "all round": _why_not_all_round, "pairs": _why_fewer, "crossings": _why_more_crossed}


def _why_broken(plan, wish):
    """Why the plan does not grant a wish; None if it does."""
    pairs, asked = _parts_of(wish)
    for pair in pairs:
        if pair >= len(plan):
            return Lacking(pair)
    why = WHYS[wish[0]]
    return why(plan, pairs, asked)


def first_broken(plan, wishes):
    """The first wish that the plan does not grant, or None."""
    for index, wish in enumerate(check_wishes(plan.line, wishes)):
        why = _why_broken(plan, wish)
        if why is not None:
            return Broken(index, why)
    return None


def grants_all(plan, wishes):
    """Whether the plan grants all wishes."""
    return first_broken(plan, wishes) is None
