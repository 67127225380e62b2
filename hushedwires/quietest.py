"""The quietest words of few crossings under limits."""

from hushedwires.errors import BadCrossings, TooMany
from hushedwires.limits import check_limits
from hushedwires.loudest import Greatest, greatest_noise
from hushedwires.ratios import compare, is_whole
from hushedwires.words import crossings_of, each_word

MOST_COMPARED = 10
MOST_CROSSINGS = 23


class Quiet:
    """The least of the greatest noises and all words that have it."""

    def __init__(self, amount, words):
        self.amount = amount
        self.words = words

    def __eq__(self, other):
        return isinstance(other, Quiet) and self.amount == other.amount and self.words == other.words


def quietest_words(line, limits, crossings):
    """The quietest words with at most so many crossings; None if all are endless."""
    if len(line) > MOST_COMPARED:
        raise TooMany(MOST_COMPARED)
    check_limits(line, limits)
    if not is_whole(crossings, 0, MOST_CROSSINGS):
        raise BadCrossings()
    least = None
    words = []
    for word in each_word(len(line)):
        if len(crossings_of(word)) <= crossings:
            found = greatest_noise(line, word, limits)
            side = _side_of(found, least)
            if side < 0:
                least = found.amount
                words = []
            if side <= 0:
                words.append(word)
    return None if least is None else Quiet(least, tuple(words))


def _side_of(found, least):
    """-1, 0 or 1 as the found noise is below, equal to or above the least one so far."""
    if not isinstance(found, Greatest):
        return 1
    return -1 if least is None else compare(found.amount, least)
