"""The hushed words nearest to a word, by the poles that must be crossed otherwise."""

from hushedwires.errors import TooMany
from hushedwires.listing import hushed_words
from hushedwires.spans import check_span
from hushedwires.words import check_word, crossings_of, product_of

MOST_SEARCHED = 12


class Nearest:
    """The least number of poles to be crossed otherwise, and all hushed words for which it does."""

    def __init__(self, many, words):
        self.many = many
        self.words = words

    def __eq__(self, other):
        return isinstance(other, Nearest) and self.many == other.many and self.words == other.words


def nearest_hushed(line, word, span):
    """The Nearest hushed words, or None if no word of the line is hushed."""
    word = check_word(line, word)
    check_span(line, span)
    if len(line) > MOST_SEARCHED:
        raise TooMany(MOST_SEARCHED)
    many = len(line)
    nearest = []
    for hushed in hushed_words(line, span):
        poles = len(crossings_of(product_of(word, hushed)))
        if poles < many:
            many = poles
            nearest = []
        if poles == many:
            nearest.append(hushed)
    return Nearest(many, tuple(nearest)) if nearest else None
