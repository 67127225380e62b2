"""Lines: sections with lengths and marks."""

from hushedwires.errors import BadGap, BadHum, BadLine, BadShare, BadSize, BadStep, NoSection
from hushedwires.ratios import (
    ONE, compare, is_above_zero, is_ratio, is_row, is_whole, minus, negative, plus, times)

MOST_SECTIONS = 24


class Line:
    """A line of 1 to 24 sections."""

    def __init__(self, lengths, marks):
        if not _is_section_row(lengths) or not _is_section_row(marks) or len(lengths) != len(marks):
            raise BadLine(0, "many")
        for index, length in enumerate(lengths):
            if not is_above_zero(length):
                raise BadLine(index, "length")
            _check_mark(marks, index)
        self.lengths = tuple(lengths)
        self.marks = tuple(marks)

    @staticmethod
    def even(count):
        """The line with lengths 1 and marks from 0 on."""
        if not is_whole(count, 1, MOST_SECTIONS):
            raise BadLine(0, "many")
        return Line((ONE,) * count, _even_marks(count))

    @property
    def is_even(self):
        """Whether this is an even line."""
        count = len(self.lengths)
        return self.lengths == (ONE,) * count and self.marks == _even_marks(count)

    def __len__(self):
        return len(self.lengths)

    def __eq__(self, other):
        return isinstance(other, Line) and self.lengths == other.lengths and self.marks == other.marks

    def cut_section(self, section, share, mark):
        """The line with one section cut in two; the second part has the told mark."""
        if not is_whole(section, 0, len(self.lengths) - 1):
            raise NoSection(section)
        if not is_above_zero(share) or compare(share, ONE) >= 0:
            raise BadShare()
        length = self.lengths[section]
        parts = (times(share, length), times(minus(ONE, share), length))
        return Line(self.lengths[:section] + parts + self.lengths[section + 1:],
                    self.marks[:section + 1] + (mark,) + self.marks[section + 1:])

    def backward(self):
        """The line walked from its other end."""
        return Line(self.lengths[::-1], [negative(mark) for mark in self.marks[::-1]])

    def grown(self, size):
        """The line with all lengths and marks times a size."""
        if not is_above_zero(size):
            raise BadSize()
        return Line([times(length, size) for length in self.lengths],
                    [times(mark, size) for mark in self.marks])

    def shifted(self, step):
        """The line with a step added to all marks."""
        if not is_ratio(step):
            raise BadStep()
        return Line(self.lengths, [plus(mark, step) for mark in self.marks])

    def joined_to(self, other, gap):
        """This line and behind it the other one, a gap between their marks."""
        if not is_above_zero(gap):
            raise BadGap()
        step = minus(plus(self.marks[-1], gap), other.marks[0])
        moved = tuple([plus(mark, step) for mark in other.marks])
        return Line(self.lengths + other.lengths, self.marks + moved)


def _is_section_row(thing):
    return is_row(thing, 1, MOST_SECTIONS)


def _even_marks(count):
    return tuple([(section, 1) for section in range(count)])


def _check_mark(marks, index):
    if not is_ratio(marks[index]):
        raise BadLine(index, "mark")
    if index > 0 and compare(marks[index], marks[index - 1]) <= 0:
        raise BadLine(index, "rising")


def check_marks(marks):
    """The marks of a line as a tuple."""
    if not _is_section_row(marks):
        raise BadLine(0, "many")
    for index in range(len(marks)):
        _check_mark(marks, index)
    return tuple(marks)


def check_hum(count, hum):
    """The hum of a line of so many sections as a tuple."""
    if not is_row(hum, count, count):
        raise BadHum(0)
    for index, entry in enumerate(hum):
        if not is_ratio(entry):
            raise BadHum(index)
    return tuple(hum)
