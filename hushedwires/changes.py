"""Changes of plans, and the plans behind them."""

from hushedwires.errors import BadChange, BadWord
from hushedwires.plans import MOST_PAIRS, Plan
from hushedwires.ratios import is_row, is_whole
from hushedwires.words import check_word, crossed_at

MOST_CHANGES = 5
# how many entries a change of each kind has
LENGTHS = {"cross": 3, "add": 2, "strike": 2}


def check_changes(plan, changes):
    """The 0 to 5 changes of a plan as a tuple of tuples."""
    if not is_row(changes, 0, MOST_CHANGES):
        raise BadChange(0, "many")
    return tuple([check_change(plan, index, change) for index, change in enumerate(changes)])


def check_change(plan, index, change):
    """One change of a plan as a tuple; errors tell it by its index."""
    if not _is_change(change):
        raise BadChange(index, "change")
    if change[0] == "add":
        return ("add", _checked_word(plan, index, change[1]))
    if not is_whole(change[1], 0, len(plan) - 1):
        raise BadChange(index, "pair")
    if change[0] == "cross" and not is_whole(change[2], 1, len(plan.line) - 1):
        raise BadChange(index, "pole")
    return tuple(change)


def _is_change(thing):
    if not is_row(thing, 2, 3) or not isinstance(thing[0], str):
        return False
    return LENGTHS.get(thing[0]) == len(thing)


def _checked_word(plan, index, word):
    try:
        return check_word(plan.line, word)
    except BadWord:
        raise BadChange(index, "word") from None


def plan_after(plan, changes):
    """The plan with all changes made, or None if it would have no pair or more than 7."""
    words = list(plan.words)
    struck = []
    added = []
    for change in check_changes(plan, changes):
        if change[0] == "cross":
            words[change[1]] = crossed_at(words[change[1]], change[2])
        elif change[0] == "strike":
            struck.append(change[1])
        else:
            added.append(change[1])
    left = [word for pair, word in enumerate(words) if pair not in struck] + added
    return Plan(plan.line, left) if 1 <= len(left) <= MOST_PAIRS else None
