"""Spans: all sums of a few told hums, with any ratios as shares."""

from hushedwires.errors import BadCount, BadDegree, BadShares, BadSpan, BadStretch, OtherLine
from hushedwires.hums import mark_hum, noise_of, stretch_hum
from hushedwires.lines import MOST_SECTIONS
from hushedwires.ratios import ZERO, is_ratio_row, is_row, is_whole, plus, times
from hushedwires.words import check_word

MOST_TOLD = 6


class Span:
    """The span of 1 to 6 told hums of one count of entries."""

    def __init__(self, hums):
        if not is_row(hums, 1, MOST_TOLD):
            raise BadSpan(0, "many")
        for index, hum in enumerate(hums):
            if not is_ratio_row(hum, 1, MOST_SECTIONS) or len(hum) != len(hums[0]):
                raise BadSpan(index, "hum")
        self.hums = tuple([tuple(hum) for hum in hums])

    @property
    def sections(self):
        """The count of entries of each hum."""
        return len(self.hums[0])

    def __len__(self):
        return len(self.hums)

    def __iter__(self):
        return iter(self.hums)

    def __eq__(self, other):
        return isinstance(other, Span) and self.hums == other.hums


class Heard:
    """The first told hum under which a word has a noise, and this noise."""

    def __init__(self, hum, noise):
        self.hum = hum
        self.noise = noise

    def __eq__(self, other):
        return isinstance(other, Heard) and self.hum == other.hum and self.noise == other.noise


def check_span(line, span):
    """The span, if it is one of the line's count of sections."""
    if span.sections != len(line):
        raise OtherLine()
    return span


def check_degree(degree):
    """A degree from 0 to 6, of which 0 asks nothing."""
    if not is_whole(degree, 0, MOST_TOLD):
        raise BadDegree(degree)
    return degree


def degree_span(line, degree):
    """The span of the powers of the marks below the degree."""
    if not is_whole(degree, 1, MOST_TOLD):
        raise BadDegree(degree)
    return Span([mark_hum(line, power) for power in range(degree)])


def stretch_span(count, stretches):
    """The span of the hums that are 1 on one of the stretches."""
    if not is_whole(count, 1, MOST_SECTIONS):
        raise BadCount()
    if not is_row(stretches, 1, MOST_TOLD):
        raise BadStretch()
    hums = []
    for couple in stretches:
        if not is_row(couple, 2, 2):
            raise BadStretch()
        hums.append(stretch_hum(count, couple[0], couple[1]))
    return Span(hums)


def hum_by_shares(span, shares):
    """The sum of the told hums, each times its share."""
    if not is_ratio_row(shares, len(span), len(span)):
        raise BadShares()
    total = (ZERO,) * span.sections
    for share, hum in zip(shares, span.hums):
        total = tuple([plus(entry, times(share, added)) for entry, added in zip(total, hum)])
    return total


def noises_of(line, word, span):
    """The noises of a word under the told hums."""
    word = check_word(line, word)
    check_span(line, span)
    return tuple([noise_of(line, word, hum) for hum in span.hums])


def heard_by(line, word, span):
    """None if the word is hushed for the span, otherwise what is Heard first."""
    for number, noise in enumerate(noises_of(line, word, span)):
        if noise != ZERO:
            return Heard(number, noise)
    return None


def is_hushed(line, word, span):
    """Whether the noise of the word is 0 under each hum of the span."""
    return heard_by(line, word, span) is None
