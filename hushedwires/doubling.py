"""Words doubled and joined, and their orders on even lines by sums of sums."""

from math import comb

from hushedwires.errors import BadCount, BadStep, TooMany
from hushedwires.lines import MOST_SECTIONS, Line
from hushedwires.ratios import compare, is_ratio, is_whole, minus, plus
from hushedwires.words import check_signs, opposite_of


def double_word(word):
    """The word followed by its opposite."""
    word = check_signs(word)
    return join_words(word, word, crossed=True)


def double_line(line, step):
    """The line followed by the same lengths, with all marks a step further."""
    if not is_ratio(step) or compare(step, minus(line.marks[-1], line.marks[0])) <= 0:
        raise BadStep()
    if 2 * len(line) > MOST_SECTIONS:
        raise TooMany(MOST_SECTIONS)
    return Line(line.lengths * 2, line.marks + tuple([plus(mark, step) for mark in line.marks]))


def join_words(word, other, *, crossed=False):
    """The word followed by the other one, which is turned if the joint is crossed."""
    word = check_signs(word)
    other = check_signs(other)
    if len(word) + len(other) > MOST_SECTIONS:
        raise TooMany(MOST_SECTIONS)
    return word + (opposite_of(other) if crossed else other)


def sum_rows(word):
    """The word, and behind each row of sum 0 the row of its running sums but the last."""
    row = check_signs(word)
    rows = [row]
    while sum(row) == 0:
        row = _running_sums(row[:-1])
        rows.append(row)
    return tuple(rows)


def _running_sums(row):
    sums = []
    total = 0
    for one in row:
        total = total + one
        sums.append(total)
    return tuple(sums)


def binomial_noises(word, many):
    """The noises on the even line under the hums "k over j", for so many j from 0 on."""
    word = check_signs(word)
    if not is_whole(many, 1, MOST_SECTIONS):
        raise BadCount()
    return tuple([(total, 1) for total in binomial_sums(word, many, 1)])


def binomial_sums(word, many, stride):
    """The sums of sign * "stride * k over j" over all sections k, for so many j from 0 on."""
    return [sum([sign * comb(stride * section, lower) for section, sign in enumerate(word)])
            for lower in range(many)]
