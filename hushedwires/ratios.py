"""Ratios: exact numbers as couples (top, bottom) in lowest terms."""

from math import gcd, lcm

from hushedwires.errors import BadRatio

ZERO = (0, 1)
ONE = (1, 1)
HALF = (1, 2)

MOST_FIGURES = 300
FIGURES = "0123456789"


def is_whole(thing, low=None, high=None):
    """Whether the thing is a whole number from low to high."""
    if isinstance(thing, bool) or not isinstance(thing, int):
        return False
    return (low is None or thing >= low) and (high is None or thing <= high)


def is_ratio(thing):
    """Whether the thing is a ratio in lowest terms."""
    if not isinstance(thing, tuple) or len(thing) != 2:
        return False
    top, bottom = thing
    return is_whole(top) and is_whole(bottom, 1) and gcd(top, bottom) == 1


def is_above_zero(thing):
    """Whether the thing is a ratio above 0."""
    return is_ratio(thing) and thing[0] > 0


def is_from_zero(thing):
    """Whether the thing is a ratio of 0 or more."""
    return is_ratio(thing) and thing[0] >= 0


def is_row(thing, low, high):
    """Whether the thing is a list or tuple of low to high entries."""
    return isinstance(thing, (list, tuple)) and low <= len(thing) <= high


def is_ratio_row(thing, low, high):
    """Whether the thing is a list or tuple of low to high ratios."""
    return is_row(thing, low, high) and all([is_ratio(one) for one in thing])


def make_ratio(top, bottom=1):
    """The ratio top / bottom in lowest terms."""
    if not is_whole(top):
        raise BadRatio("top")
    if not is_whole(bottom) or bottom == 0:
        raise BadRatio("bottom")
    return _lowest(top, bottom)


def _lowest(top, bottom):
    common = gcd(top, bottom)
    if bottom < 0:
        common = -common
    return (top // common, bottom // common)


def plus(one, other):
    """The sum of two ratios."""
    return _lowest(one[0] * other[1] + other[0] * one[1], one[1] * other[1])


def minus(one, other):
    """The first ratio less the second."""
    return _lowest(one[0] * other[1] - other[0] * one[1], one[1] * other[1])


def times(one, other):
    """The product of two ratios."""
    return _lowest(one[0] * other[0], one[1] * other[1])


def over(one, other):
    """The first ratio divided by the second."""
    if other[0] == 0:
        raise BadRatio("zero")
    return _lowest(one[0] * other[1], one[1] * other[0])


def negative(one):
    """The ratio with the other sign."""
    return (-one[0], one[1])


def compare(one, other):
    """-1, 0 or 1 as the first ratio is below, equal to or above the second."""
    left = one[0] * other[1]
    right = other[0] * one[1]
    if left == right:
        return 0
    return 1 if left > right else -1


def size_of(one):
    """The ratio without its sign."""
    return (abs(one[0]), one[1])


def power_of(one, exponent):
    """The ratio times itself, so many times; 1 for none, also of zero."""
    return (_whole_power(one[0], exponent), _whole_power(one[1], exponent))


def _whole_power(base, exponent):
    power = 1
    while exponent > 0:
        if exponent & 1:
            power = power * base
        exponent = exponent >> 1
        if exponent > 0:
            base = base * base
    return power


def sum_of(row):
    """The sum of a sequence of ratios."""
    total = ZERO
    for one in row:
        total = plus(total, one)
    return total


def sum_of_products(row, other):
    """The sum of the products of two sequences of ratios, entry by entry."""
    return sum_of([times(one, against) for one, against in zip(row, other)])


def least_of(row):
    """The least of one ratio or more."""
    least = row[0]
    for one in row:
        if compare(one, least) < 0:
            least = one
    return least


def greatest_of(row):
    """The greatest of one ratio or more."""
    greatest = row[0]
    for one in row:
        if compare(one, greatest) > 0:
            greatest = one
    return greatest


def long_plus(one, other):
    """The sum of two ratios of which one may be very long; both must be in lowest terms."""
    # what the bottoms share is no longer than the shorter one, and so are both gcds
    common = gcd(one[1], other[1])
    part = one[1] // common
    top = one[0] * (other[1] // common) + other[0] * part
    common = gcd(top, common)
    return (top // common, part * (other[1] // common))


def common_bottom(row):
    """The least whole number that makes each ratio of a sequence whole."""
    bottom = 1
    for one in row:
        bottom = lcm(bottom, one[1])
    return bottom


def ratio_text(one):
    """The ratio as a text: the top, and behind a bar the bottom if it is above 1."""
    top, bottom = one
    return str(top) if bottom == 1 else f"{top}/{bottom}"


def ratio_of(text):
    """The ratio that a text tells; just what ratio_text writes is read."""
    if not isinstance(text, str):
        raise BadRatio("text")
    figures = text.removeprefix("-")
    top_text, bar, bottom_text = figures.partition("/")
    if not _is_number_text(top_text) or (bar and not _is_number_text(bottom_text)):
        raise BadRatio("text")
    top = int(top_text)
    bottom = int(bottom_text) if bar else 1
    if top == 0 and figures != text:
        raise BadRatio("text")
    if bar and (bottom < 2 or gcd(top, bottom) != 1):
        raise BadRatio("text")
    return (top if figures == text else -top, bottom)


def _is_number_text(text):
    # str.isdigit would let figures of other scripts through
    if not 1 <= len(text) <= MOST_FIGURES or (text[0] == "0" and text != "0"):
        return False
    return all([figure in FIGURES for figure in text])
