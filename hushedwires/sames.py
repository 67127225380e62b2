"""Whether hums belong to spans, and which spans are the same."""

from hushedwires.lines import check_hum
from hushedwires.ratios import ONE, ZERO, is_ratio_row, negative, sum_of_products
from hushedwires.reducing import first_unlike_zero, reduced_rows, rest_of
from hushedwires.spans import hum_by_shares


class Made:
    """Shares by which the told hums of a span make a hum."""

    def __init__(self, shares):
        self.shares = shares

    def __eq__(self, other):
        return isinstance(other, Made) and self.shares == other.shares


class Apart:
    """A row that gives 0 with each told hum of a span, but not with some hum."""

    def __init__(self, row):
        self.row = row

    def __eq__(self, other):
        return isinstance(other, Apart) and self.row == other.row


def place_hum(span, hum):
    """How the told hums make the hum (Made), or why they do not (Apart)."""
    hum = check_hum(span.sections, hum)
    reduced = reduced_rows(span.hums)
    rest, owed = rest_of(reduced, hum, (ZERO,) * len(span))
    place = first_unlike_zero(rest)
    if place is None:
        return Made(tuple([negative(share) for share in owed]))
    return Apart(_row_apart(reduced, place, span.sections))


def _row_apart(reduced, place, sections):
    # 1 at a place without a pivot is made up for at the pivots, one reduced row at a time
    row = [ZERO] * sections
    row[place] = ONE
    for one in reduced:
        row[one.pivot] = negative(one.row[place])
    return tuple(row)


def place_fault(span, hum, told):
    """What is wrong with a told Made or Apart, or None."""
    hum = check_hum(span.sections, hum)
    if isinstance(told, Made) and is_ratio_row(told.shares, len(span), len(span)):
        return None if hum_by_shares(span, told.shares) == hum else "hum"
    if not isinstance(told, Apart) or not is_ratio_row(told.row, span.sections, span.sections):
        return "told"
    if not all([sum_of_products(told.row, one) == ZERO for one in span.hums]):
        return "span"
    return "hum" if sum_of_products(told.row, hum) == ZERO else None


def lean_hums(span):
    """The numbers of the told hums that are no sums of earlier ones."""
    return tuple([one.number for one in reduced_rows(span.hums)])


def holds_span(one, other):
    """Whether each hum of the other span is one of the first span."""
    if one.sections != other.sections:
        return False
    reduced = reduced_rows(one.hums)
    return all([_is_made(reduced, hum) for hum in other.hums])


def _is_made(reduced, hum):
    rest, _ = rest_of(reduced, hum, ())
    return first_unlike_zero(rest) is None


def same_span(one, other):
    """Whether both spans hold one another."""
    return holds_span(one, other) and holds_span(other, one)
