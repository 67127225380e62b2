"""The greatest noises of patterns where all steps are 1, by sums of sizes of running sums."""

from hushedwires.forms import check_extent


def steps_noise(pattern, extent):
    """The greatest noise with all steps 1 and no mosts, or None if it is endless."""
    check_extent(extent)
    if _running_at(pattern, extent) != 0:
        return None
    return (_sum_of_sizes(pattern, extent, 0), 1)


def tied_noise(pattern, extent):
    """The greatest noise with all steps 1 and the first section's most 1 alone."""
    check_extent(extent)
    return (_sum_of_sizes(pattern, extent, _running_at(pattern, extent)), 1)


def _running_at(pattern, section):
    """The sum of the first so many signs."""
    repeats, rest = divmod(section, pattern.period)
    return repeats * pattern.total + sum(pattern.signs[:rest])


def _sum_of_sizes(pattern, extent, level):
    """The sum of the sizes of level - running sum ahead of each section of the extent."""
    total = 0
    for rest in range(min(pattern.period, extent)):
        many = (extent - 1 - rest) // pattern.period + 1
        total = total + _sizes_along(sum(pattern.signs[:rest]) - level, pattern.total, many)
    return total


def _sizes_along(start, step, many):
    """The sum of the sizes of so many numbers that begin at the start and grow by the step."""
    if step < 0:
        start, step = -start, -step
    if step == 0:
        return abs(start) * many
    below = min(max(-(start // step), 0), many)
    return _sum_along(start, step, many) - 2 * _sum_along(start, step, below)


def _sum_along(start, step, many):
    return start * many + step * (many * (many - 1) // 2)
