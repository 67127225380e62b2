"""The least sums of a word under limits, and a hum as loud as they allow.

Everything here is in whole numbers. A height is a running sum; a chain is a row of one level
at each pole and each end, and its sums are the heights less the levels. So a section's left
over is the rise of its level, and the least of all costs comes up among chains whose levels
are heights.
"""

from hushedwires.ratios import common_bottom


class WholeCase:
    """A word's heights, limits and known values, times what makes them whole numbers."""

    def __init__(self, running, limits, known):
        self.length_bottom = common_bottom(running)
        limiting = [one for one in limits.mosts + limits.steps if one is not None]
        self.hum_bottom = common_bottom(limiting + [value for _, value in known])
        self.heights = [_whole_of(one, self.length_bottom) for one in running]
        self.mosts = [_whole_of(most, self.hum_bottom) for most in limits.mosts]
        self.steps = [_whole_of(step, self.hum_bottom) for step in limits.steps]
        self.known = {section: _whole_of(value, self.hum_bottom) for section, value in known}


def _whole_of(one, bottom):
    return None if one is None else one[0] * (bottom // one[1])


def least_chain(heights, mosts, steps, known):
    """The least cost and a chain that has it; some chain must have a cost.

    Known values stand in a dict by section.
    """
    levels = sorted(set(heights))
    costs = [0 if level == heights[0] else None for level in levels]
    pole_steps = steps + [None]
    origins = []
    for section, most in enumerate(mosts):
        moved = _moved(levels, costs, most, known.get(section))
        origins.append([None if one is None else one[1] for one in moved])
        costs = _held(levels, moved, heights[section + 1], pole_steps[section])
    place = levels.index(heights[-1])
    return costs[place], _chain_to(levels, origins, place)


def _moved(levels, costs, most, value):
    """For each level behind a section the least cost and the place of the level ahead."""
    if value is not None:
        return _moved_known(levels, costs, value)
    stayed = [None if cost is None else (cost, place) for place, cost in enumerate(costs)]
    if most is None:
        return stayed
    risen = _spread(levels, stayed, most)
    fallen = _spread(levels[::-1], risen[::-1], most)
    return fallen[::-1]


def _moved_known(levels, costs, value):
    base, origin = min([(cost - value * levels[place], place)
                        for place, cost in enumerate(costs) if cost is not None])
    return [(base + value * level, origin) for level in levels]


def _spread(levels, moved, most):
    """The least costs where each level may also be reached from the one ahead of it."""
    spread = []
    carried = None
    for place, one in enumerate(moved):
        if carried is not None:
            rise = abs(levels[place] - levels[place - 1])
            carried = (carried[0] + most * rise, carried[1])
        if one is not None and (carried is None or one[0] <= carried[0]):
            carried = one
        spread.append(carried)
    return spread


def _held(levels, moved, height, step):
    """The costs behind a pole; without step its sum has to be 0."""
    costs = []
    for level, one in zip(levels, moved):
        if one is None or (step is None and level != height):
            costs.append(None)
        else:
            costs.append(one[0] + (0 if step is None else step * abs(height - level)))
    return costs


def _chain_to(levels, origins, place):
    chain = [levels[place]]
    for places in origins[::-1]:
        place = places[place]
        chain.append(levels[place])
    return chain[::-1]


def hum_of_chain(case, chain):
    """A hum within limits with known values whose noise is the cost of a least chain.

    It spares nothing anywhere: rising levels ask for the most, falling ones for its negative,
    levels above the height for a rise by the step, those below it for a fall. Each such
    demand is an end of a range, and ranges along a line hold together from one to the next.
    """
    changes = [_range_of(level - height, step)
               for level, height, step in zip(chain[1:], case.heights[1:], case.steps)]
    ranges = []
    for section, most in enumerate(case.mosts):
        held = _range_of(chain[section + 1] - chain[section], most)
        if section in case.known:
            held = (case.known[section], case.known[section])
        if section > 0:
            held = _both(held, _added(ranges[-1], changes[section - 1]))
        ranges.append(held)
    hum = [_nearest_zero(ranges[-1])]
    for held, change in zip(ranges[-2::-1], changes[::-1]):
        ahead = _added((hum[-1], hum[-1]), _turned(change))
        hum.append(_nearest_zero(_both(held, ahead)))
    return hum[::-1]


def _range_of(side, limit):
    if limit is None:
        return (None, None)
    if side == 0:
        return (-limit, limit)
    return (limit, limit) if side > 0 else (-limit, -limit)


def _both(one, other):
    return (_best([one[0], other[0]], 1), _best([one[1], other[1]], -1))


def _best(ends, side):
    told = [side * end for end in ends if end is not None]
    return side * max(told) if told else None


def _added(one, other):
    return tuple([None if end is None or change is None else end + change
                  for end, change in zip(one, other)])


def _turned(held):
    low, high = held
    return (None if high is None else -high, None if low is None else -low)


def _nearest_zero(held):
    low, high = held
    if low is not None and low > 0:
        return low
    return high if high is not None and high < 0 else 0
