"""Words, lines, hums, spans and plans nested in one another."""

from hushedwires.errors import BadSize, TooMany
from hushedwires.lines import MOST_SECTIONS, Line, check_hum
from hushedwires.orders import order_of
from hushedwires.plans import Plan
from hushedwires.ratios import compare, is_above_zero, is_row, minus, plus, times
from hushedwires.spans import Span
from hushedwires.words import check_signs


def _check_room(outer_count, inner_count):
    if outer_count * inner_count > MOST_SECTIONS:
        raise TooMany(MOST_SECTIONS)


def nested_signs(outer, inner):
    """For each outer sign all inner signs times it, however many."""
    return tuple([sign * other for sign in outer for other in inner])


def nest_words(outer, inner):
    """The word of all inner signs times each outer sign."""
    outer = check_signs(outer)
    inner = check_signs(inner)
    _check_room(len(outer), len(inner))
    return nested_signs(outer, inner)


def nest_lines(outer, inner, size):
    """The line of an inner line in each outer section; outer marks are so many times as far."""
    if not is_above_zero(size) or not _leaves_room(outer.marks, inner.marks, size):
        raise BadSize()
    _check_room(len(outer), len(inner))
    return Line(_nested_row(outer.lengths, inner.lengths),
                [plus(times(size, mark), other) for mark in outer.marks for other in inner.marks])


def _leaves_room(outer_marks, inner_marks, size):
    """Whether the inner marks end ahead of the next outer one."""
    width = minus(inner_marks[-1], inner_marks[0])
    return all([compare(times(size, minus(following, mark)), width) > 0
                for mark, following in zip(outer_marks, outer_marks[1:])])


def _nested_row(outer, inner):
    return tuple([times(one, other) for one in outer for other in inner])


def nest_hums(outer, inner):
    """The hum of all inner entries times each outer entry."""
    outer = _check_any_hum(outer)
    inner = _check_any_hum(inner)
    _check_room(len(outer), len(inner))
    return _nested_row(outer, inner)


def _check_any_hum(hum):
    # a count that no row has tells that this is no hum at all
    return check_hum(len(hum) if is_row(hum, 1, MOST_SECTIONS) else -1, hum)


def nest_spans(outer, inner):
    """The span of all nested hums."""
    _check_room(outer.sections, inner.sections)
    return Span([_nested_row(hum, other) for hum in outer.hums for other in inner.hums])


def nest_plans(outer, inner, size):
    """The plan of all words nested of words of both plans and of words of + alone."""
    line = nest_lines(outer.line, inner.line, size)
    outer_plain = (1,) * len(outer.line)
    inner_plain = (1,) * len(inner.line)
    words = [nested_signs(word, inner_plain) for word in outer.words]
    words = words + [nested_signs(outer_plain, word) for word in inner.words]
    return Plan(line, words + [nested_signs(word, other) for word in outer.words for other in inner.words])


def weakest_order(plan):
    """The least order in a plan, with the first pair or couple of pairs that has it."""
    weakest = None
    for pair, word in enumerate(plan.words):
        weakest = _weaker(weakest, order_of(plan.line, word), pair, None)
    for pair in range(len(plan)):
        for other in range(pair + 1, len(plan)):
            weakest = _weaker(weakest, order_of(plan.line, plan.product_at(pair, other)), pair, other)
    return weakest


def _weaker(weakest, order, pair, other):
    return (order, pair, other) if weakest is None or order < weakest[0] else weakest
