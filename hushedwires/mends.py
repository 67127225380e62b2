"""Choices among a pool of changes that make a plan grant wishes, or that spoil it."""

from hushedwires.changes import check_changes, plan_after
from hushedwires.errors import BadChange, NotGranted
from hushedwires.lots import in_each, is_part, lots_upto
from hushedwires.ratios import is_row, is_whole
from hushedwires.wishes import check_wishes, first_broken

MOST_POOLED = 5
NO_PLAN = -1


class Mends:
    """The good choices of which no proper part is good, and why each other choice is not good."""

    def __init__(self, least, losses):
        self.least = least
        self.losses = losses

    def __eq__(self, other):
        return isinstance(other, Mends) and self.least == other.least and self.losses == other.losses

    @property
    def needed(self):
        """The indices that are in each least choice."""
        return in_each(self.least)


class Spoiler:
    """A choice that is not good though each proper part of it is, and the wish that it breaks."""

    def __init__(self, choice, index):
        self.choice = choice
        self.index = index

    def __eq__(self, other):
        return isinstance(other, Spoiler) and self.choice == other.choice and self.index == other.index


def _check_pool(plan, pool):
    if not is_row(pool, 1, MOST_POOLED):
        raise BadChange(0, "pool")
    return check_changes(plan, pool)


def _judged_choices(plan, pool, wishes):
    """For each choice, in order, the index of the wish that is broken behind it, None if it is good."""
    pool = _check_pool(plan, pool)
    wishes = check_wishes(plan.line, wishes)
    return {choice: _loss_behind(plan, [pool[index] for index in choice], wishes)
            for choice in lots_upto(0, len(pool) - 1, len(pool))}


def _loss_behind(plan, changes, wishes):
    behind = plan_after(plan, changes)
    if behind is None:
        return NO_PLAN
    broken = first_broken(behind, wishes)
    return None if broken is None else broken.index


def find_mends(plan, pool, wishes):
    """The least good choices of a pool, and the losses of all choices that are not good."""
    judged = _judged_choices(plan, pool, wishes)
    least = []
    for choice, loss in judged.items():
        if loss is None and not any([is_part(other, choice) for other in least]):
            least.append(choice)
    losses = [(choice, loss) for choice, loss in judged.items() if loss is not None]
    return Mends(tuple(least), tuple(losses))


def mends_fault(plan, pool, wishes, told):
    """What is wrong with told Mends, or None."""
    right = find_mends(plan, pool, wishes)
    if not isinstance(told, Mends):
        return "kind"
    if not _is_same(told.least, right.least):
        return "least"
    return None if _is_same(told.losses, right.losses) else "losses"


def _is_same(thing, right):
    """Whether the thing is this tuple; truths are no whole numbers."""
    if not isinstance(right, tuple):
        return is_whole(thing) and thing == right
    if not isinstance(thing, tuple) or len(thing) != len(right):
        return False
    return all([_is_same(one, other) for one, other in zip(thing, right)])


def find_spoilers(plan, pool, wishes):
    """The choices that are not good though each proper part of them is."""
    judged = _judged_choices(plan, pool, wishes)
    if judged[()] is not None:
        raise NotGranted(judged[()])
    spoilers = []
    for choice, loss in judged.items():
        if loss is not None and not any([is_part(one.choice, choice) for one in spoilers]):
            spoilers.append(Spoiler(choice, loss))
    return tuple(spoilers)
