"""Texts of lines."""

from hushedwires.errors import BadLine, BadRatio, BadText
from hushedwires.lines import MOST_SECTIONS, Line
from hushedwires.ratios import ratio_of, ratio_text


def line_text(line):
    """The line as a text: for each section its length, a colon and its mark."""
    parts = []
    for length, mark in zip(line.lengths, line.marks):
        parts.append(ratio_text(length) + ":" + ratio_text(mark))
    return " ".join(parts)


def ratio_parts(text):
    """The parts of a text between its single blanks, at most one for each section."""
    if not isinstance(text, str):
        raise BadText(0, "text")
    parts = text.split(" ")
    if len(parts) > MOST_SECTIONS:
        raise BadText(0, "many")
    return parts


def ratio_at(place, text):
    """The ratio of the part with this number."""
    try:
        return ratio_of(text)
    except BadRatio:
        raise BadText(place, "ratio") from None


def line_of(text):
    """The line that a text tells."""
    lengths = []
    marks = []
    for place, part in enumerate(ratio_parts(text)):
        length, colon, mark = part.partition(":")
        if not colon:
            raise BadText(place, "colon")
        lengths.append(ratio_at(place, length))
        marks.append(ratio_at(place, mark))
        # a part is judged as the last section of a line that is right so far
        _check_last(lengths, marks)
    return Line(lengths, marks)


def _check_last(lengths, marks):
    try:
        Line(lengths, marks)
    except BadLine as wrong:
        raise BadText(wrong.index, wrong.what) from None
