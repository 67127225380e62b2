"""Orders of words, loud polynomials, and the words one change away from a hushed one."""

from hushedwires.errors import BadDegree, BadLength
from hushedwires.hums import level_hum, noise_of, polynomial_hum
from hushedwires.ratios import HALF, ONE, ZERO, is_ratio_row, is_whole, minus, plus, times
from hushedwires.spans import check_span, is_hushed
from hushedwires.words import check_word, crossed_at, crossings_of

LARGEST = 10 ** 30


def order_of(line, word):
    """The greatest degree for which the word is hushed."""
    order, _ = order_noise(line, word)
    return order


def order_noise(line, word):
    """The order of the word and its noise under mark ** order."""
    word = check_word(line, word)
    order = 0
    hum = level_hum(line)
    noise = noise_of(line, word, hum)
    while noise == ZERO:
        order += 1
        hum = tuple([times(entry, mark) for entry, mark in zip(hum, line.marks)])
        noise = noise_of(line, word, hum)
    return order, noise


def loud_polynomial(line, word):
    """The product of (x - the middle of the marks beside the pole) over all crossings."""
    coefficients = (ONE,)
    for pole in crossings_of(check_word(line, word)):
        middle = times(HALF, plus(line.marks[pole - 1], line.marks[pole]))
        raised = (ZERO,) + coefficients
        lowered = tuple([times(middle, one) for one in coefficients]) + (ZERO,)
        coefficients = tuple([minus(one, other) for one, other in zip(raised, lowered)])
    return coefficients


def is_loud(word, hum):
    """Whether the products sign * hum are all on one side of 0, and not all 0."""
    tops = [sign * entry[0] for sign, entry in zip(word, hum)]
    least, greatest = min(tops), max(tops)
    return (least >= 0 and greatest > 0) or (greatest <= 0 and least < 0)


def loud_fault(line, word, coefficients):
    """What is wrong with a loud polynomial of a word, or None."""
    word = check_word(line, word)
    if not is_ratio_row(coefficients, 1, len(crossings_of(word)) + 1):
        return "many"
    return None if is_loud(word, polynomial_hum(line, coefficients)) else "loud"


def hushing_poles(line, word, span):
    """The poles at which one change makes the word hushed for the span."""
    word = check_word(line, word)
    check_span(line, span)
    return tuple([pole for pole in range(1, len(line))
                  if is_hushed(line, crossed_at(word, pole), span)])


def length_bar(length, degree):
    """Why no word of an even line of this length has this order: a power, or None."""
    if not is_whole(length, 1, LARGEST):
        raise BadLength(length)
    if not is_whole(degree, 0, LARGEST):
        raise BadDegree(degree)
    # by Lucas, "length over k" is even for 0 < k below the least binary place of the length
    least_odd = length & -length
    return None if least_odd > degree else least_odd - 1
