"""Plans made finer and turned about the spots of a cross-arm."""

from hushedwires.errors import BadParts, BadSpots
from hushedwires.layouts import LEAST_SPOTS, MOST_SPOTS, turning_layout
from hushedwires.lines import MOST_SECTIONS, Line
from hushedwires.plans import Plan
from hushedwires.ratios import ONE, is_whole, make_ratio, minus, plus, times
from hushedwires.spans import Span


class Turned:
    """A plan made finer, and the layout in which its pairs turn."""

    def __init__(self, plan, layout):
        self.plan = plan
        self.layout = layout

    def __eq__(self, other):
        return isinstance(other, Turned) and self.plan == other.plan and self.layout == other.layout


def _check_parts(count, parts):
    if not is_whole(parts, 2, 4) or count * parts > MOST_SECTIONS:
        raise BadParts()


def finer_line(line, parts):
    """The line with each section cut in so many equal parts."""
    _check_parts(len(line), parts)
    lengths = [times(length, (1, parts)) for length in line.lengths]
    marks = []
    for mark, following in zip(line.marks, line.marks[1:] + (plus(line.marks[-1], ONE),)):
        step = minus(following, mark)
        marks = marks + [plus(mark, times(make_ratio(part, parts), step)) for part in range(parts)]
    return Line(finer_row(lengths, parts), marks)


def finer_row(row, parts):
    """The row with each entry so many times."""
    return tuple([entry for entry in row for _ in range(parts)])


def finer_span(span, parts):
    """The span of the hums made finer."""
    _check_parts(span.sections, parts)
    return Span([finer_row(hum, parts) for hum in span.hums])


def turn_plan(plan, spots):
    """The plan made finer by as many parts as there are spots, and its turning layout."""
    if not is_whole(spots, LEAST_SPOTS, MOST_SPOTS) or spots < len(plan):
        raise BadSpots()
    line = finer_line(plan.line, spots)
    words = [finer_row(word, spots) for word in plan.words]
    return Turned(Plan(line, words), turning_layout(spots, len(plan), len(line)))
