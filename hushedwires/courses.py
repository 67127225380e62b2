"""The greatest noise as all steps grow alike."""

from hushedwires.errors import BadAmount, BadFactor, TooMany
from hushedwires.levels import WholeCase, least_chain
from hushedwires.limits import check_limits
from hushedwires.loudest import Endless, endless_hum
from hushedwires.ratios import ZERO, compare, is_from_zero, is_ratio, make_ratio, minus, over, plus, times
from hushedwires.running import running_of
from hushedwires.words import check_word

MOST_FOLLOWED = 12


class Course:
    """A broken straight course: its corners (factor, amount) and the slope behind the last."""

    def __init__(self, corners, slope):
        self.corners = corners
        self.slope = slope

    def __eq__(self, other):
        return isinstance(other, Course) and self.corners == other.corners and self.slope == other.slope

    def amount_at(self, factor):
        """The greatest noise at a factor."""
        if not is_from_zero(factor):
            raise BadFactor()
        place = len([corner for corner in self.corners if compare(corner[0], factor) <= 0]) - 1
        start, amount = self.corners[place]
        return plus(amount, times(_slope_behind(self, place), minus(factor, start)))


def _slope_behind(course, place):
    if place == len(course.corners) - 1:
        return course.slope
    (start, amount), (end, reached) = course.corners[place], course.corners[place + 1]
    return over(minus(reached, amount), minus(end, start))


def noise_course(line, word, limits):
    """The Course of the greatest noise, or Endless."""
    if len(line) > MOST_FOLLOWED:
        raise TooMany(MOST_FOLLOWED)
    word = check_word(line, word)
    check_limits(line, limits)
    hum = endless_hum(line, word, limits, ())
    if hum is not None:
        return Endless(hum)
    return _course_of(WholeCase(running_of(line, word), limits, ()))


def _course_of(case):
    """The least of all straights: each tells the cost of some sums at each factor."""
    scale = case.length_bottom * case.hum_bottom
    straight = _straight_at(case, ZERO)
    last = _last_straight(case)
    corners = [(ZERO, make_ratio(straight[0], scale))]
    while straight[1] != last[1]:
        factor, behind = _next_turn(case, straight, last)
        corners.append((factor, over(_height_at(straight, factor), (scale, 1))))
        straight = behind
    return Course(tuple(corners), make_ratio(straight[1], scale))


def _straight_at(case, factor):
    """The least straight (base, slope) at a factor; of several, the least behind it."""
    top, bottom = factor
    # a base too large for any slope to make up for lets one cost tell both
    unit = 1 + _reach_of(case) * sum([step for step in case.steps if step is not None])
    cost = _least_cost(case, bottom * unit, top * unit + 1)
    whole, slope = divmod(cost, unit)
    return ((whole - top * slope) // bottom, slope)


def _last_straight(case):
    """The straight that is least for all large factors."""
    unit = 1 + _reach_of(case) * sum([most for most in case.mosts if most is not None])
    slope, base = divmod(_least_cost(case, 1, unit), unit)
    return (base, slope)


def _reach_of(case):
    return max(case.heights) - min(case.heights)


def _least_cost(case, per_most, per_step):
    mosts = [None if most is None else most * per_most for most in case.mosts]
    steps = [None if step is None else step * per_step for step in case.steps]
    cost, _ = least_chain(case.heights, mosts, steps, {})
    return cost


def _next_turn(case, straight, last):
    """The factor at which a straight is no more the least one, and the one behind it."""
    behind = last
    while True:
        factor = make_ratio(behind[0] - straight[0], straight[1] - behind[1])
        least = _straight_at(case, factor)
        if _height_at(least, factor) == _height_at(straight, factor):
            return factor, least
        behind = least


def _height_at(straight, factor):
    return plus((straight[0], 1), times((straight[1], 1), factor))


def most_factor(line, word, limits, amount):
    """Up to which factor the greatest noise is at most the amount."""
    course = noise_course(line, word, limits)
    if not is_ratio(amount):
        raise BadAmount()
    if isinstance(course, Endless):
        return ("none",)
    place = len([corner for corner in course.corners if compare(corner[1], amount) <= 0]) - 1
    if place < 0:
        return ("none",)
    slope = _slope_behind(course, place)
    if slope == ZERO:
        return ("all",)
    start, reached = course.corners[place]
    return ("to", plus(start, over(minus(amount, reached), slope)))
