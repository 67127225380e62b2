"""Layouts: the spots of a cross-arm on which the pairs stand, section by section."""

from hushedwires.errors import BadLayout, BadLegs, NoPair, NoPole, OtherLine, OtherPairs
from hushedwires.lines import MOST_SECTIONS
from hushedwires.ratios import ZERO, is_row, is_whole, plus

LEAST_SPOTS = 2
MOST_SPOTS = 4


class Layout:
    """The spot of each pair in each section."""

    def __init__(self, spots, places):
        _check_spots(spots)
        if not is_row(places, 1, MOST_SECTIONS):
            raise BadLayout(0, "many")
        for section, row in enumerate(places):
            if not is_row(row, 1, spots) or len(row) != len(places[0]):
                raise BadLayout(section, "row")
            _check_standing(spots, section, row)
        self.spots = spots
        self.places = tuple([tuple(row) for row in places])
        self.pairs = len(places[0])

    def __len__(self):
        return len(self.places)

    def __eq__(self, other):
        return isinstance(other, Layout) and self.spots == other.spots and self.places == other.places


def _check_spots(spots):
    if not is_whole(spots, LEAST_SPOTS, MOST_SPOTS):
        raise BadLayout(0, "spots")


def _check_standing(spots, section, row):
    for pair, spot in enumerate(row):
        if not is_whole(spot, 0, spots - 1):
            raise BadLayout(section, "spot")
        if spot in row[:pair]:
            raise BadLayout(section, "twice")


def _check_arm(spots, sections):
    _check_spots(spots)
    if not is_whole(sections, 1, MOST_SECTIONS):
        raise BadLayout(0, "many")


def check_fitting(line, layout):
    """The layout, if it is one of the line's count of sections."""
    if len(layout) != len(line):
        raise OtherLine()
    return layout


def check_plan_fitting(plan, layout):
    """The layout, if it is one of the plan's counts of sections and of pairs."""
    check_fitting(plan.line, layout)
    if layout.pairs != len(plan):
        raise OtherPairs()
    return layout


def check_standing_pair(layout, pair):
    """The number of a pair of the layout."""
    if not is_whole(pair, 0, layout.pairs - 1):
        raise NoPair(pair)
    return pair


def check_legs(layout, legs):
    """Two unlike pairs of the layout, ascending."""
    if not is_row(legs, 2, 2) or not all([is_whole(leg, 0, layout.pairs - 1) for leg in legs]):
        raise BadLegs()
    if legs[0] == legs[1]:
        raise BadLegs()
    return tuple(sorted(legs))


def spot_couples(spots):
    """All couples of spots, ascending."""
    _check_spots(spots)
    return tuple([(low, high) for low in range(spots) for high in range(low + 1, spots)])


def still_layout(spots, start, sections):
    """The layout with the same row in each section."""
    _check_arm(spots, sections)
    return Layout(spots, (start,) * sections)


def turning_layout(spots, pairs, sections):
    """The layout in which each pair stands one spot further from section to section."""
    _check_arm(spots, sections)
    if not is_whole(pairs, 1, spots):
        raise BadLayout(0, "row")
    return Layout(spots, [[(pair + section) % spots for pair in range(pairs)] for section in range(sections)])


def moves_of(layout):
    """For each pair that moves at a pole: the pole, the pair and its spots before and behind."""
    moves = []
    for pole in range(1, len(layout)):
        row, following = layout.places[pole - 1:pole + 1]
        for pair, (before, behind) in enumerate(zip(row, following)):
            if before != behind:
                moves.append((pole, pair, before, behind))
    return tuple(moves)


def exchanged_layout(layout, pole, legs):
    """The layout in which two pairs change places from the pole on."""
    if not is_whole(pole, 1, len(layout) - 1):
        raise NoPole(pole)
    low, high = check_legs(layout, legs)
    exchanged = [row[:low] + (row[high],) + row[low + 1:high] + (row[low],) + row[high + 1:]
                 for row in layout.places[pole:]]
    return Layout(layout.spots, layout.places[:pole] + tuple(exchanged))


def sums_by_spot(layout, pair, parts):
    """For each spot the sum of the parts of those sections in which the pair stands there."""
    sums = [ZERO] * layout.spots
    for row, part in zip(layout.places, parts):
        sums[row[pair]] = plus(sums[row[pair]], part)
    return tuple(sums)


def sums_by_couple(layout, pair, other, parts):
    """For each couple of spots the sum of the parts of those sections in which two pairs stand there."""
    couples = spot_couples(layout.spots)
    sums = [ZERO] * len(couples)
    for row, part in zip(layout.places, parts):
        place = couples.index((min(row[pair], row[other]), max(row[pair], row[other])))
        sums[place] = plus(sums[place], part)
    return tuple(sums)
