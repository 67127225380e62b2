"""Beginnings of words, told apart by their rows of sums alone.

A row of sums is kept as one whole number: the sums are its digits, the first hum's the highest.
The digits lie on both sides of 0, so rows are added as numbers are, the row of zeros is 0, and
numbers ascend as rows do.
"""

from hushedwires.errors import TooMany
from hushedwires.ratios import common_bottom, times

MOST_ROWS = 4096


def packed_steps(line, hums):
    """What each section adds to packed rows with the sign 1, or takes away with -1."""
    steps = [0] * len(line)
    for hum in hums:
        weights = [times(length, entry) for length, entry in zip(line.lengths, hum)]
        bottom = common_bottom(weights)
        tops = [weight[0] * (bottom // weight[1]) for weight in weights]
        # no sum is further from 0 than all sizes together
        base = 2 * sum([abs(top) for top in tops]) + 1
        steps = [step * base + top for step, top in zip(steps, tops)]
    return tuple(steps)


def is_hushed_row(steps, word):
    """Whether the packed row of the whole word is the row of zeros."""
    return sum([sign * step for sign, step in zip(word, steps)]) == 0


def packed_layers(steps):
    """The unlike packed rows of all beginnings, layer by layer, each ascending."""
    layers = [[0]]
    for section, step in enumerate(steps):
        reached = [row + step for row in layers[-1]]
        if section > 0:
            reached = reached + [row - step for row in layers[-1]]
        layers.append(sorted(set(reached)))
        if len(layers[-1]) > MOST_ROWS:
            raise TooMany(MOST_ROWS)
    return layers


def counted_endings(steps, layers):
    """For each layer the rows that can be brought to zeros, each with how many ways there are."""
    endings = {0: 1}
    counted = [endings]
    for section in reversed(range(len(steps))):
        endings = _endings_before(steps, section, layers[section], endings)
        counted.append(endings)
    return counted[::-1]


def _endings_before(steps, section, layer, endings):
    step = steps[section]
    before = {}
    for row in layer:
        many = endings.get(row + step, 0)
        if section > 0:
            many = many + endings.get(row - step, 0)
        if many > 0:
            before[row] = many
    return before


def ways_behind(ways, step):
    """By their sums, how many rows there are if each goes on with the step or less the step."""
    behind = {}
    for total in ways:
        for reached in (total + step, total - step):
            behind[reached] = behind.get(reached, 0) + ways[total]
    return behind


def hushed_endings(steps):
    """The counted endings of all words whose row is the row of zeros."""
    return counted_endings(steps, packed_layers(steps))


def count_of(endings):
    """How many words there are."""
    return endings[0].get(0, 0)


def word_of_number(steps, endings, number):
    """The word with this number, from 0, among all words, ascending."""
    row = steps[0]
    signs = [1]
    for section in range(1, len(steps)):
        ahead = endings[section + 1].get(row + steps[section], 0)
        signs.append(1 if number < ahead else -1)
        number = number if number < ahead else number - ahead
        row = row + signs[-1] * steps[section]
    return tuple(signs)


def number_of_hushed(steps, endings, word):
    """The number of a word with the row of zeros among all of them."""
    row = steps[0]
    number = 0
    for section in range(1, len(steps)):
        if word[section] == -1:
            number = number + endings[section + 1].get(row + steps[section], 0)
        row = row + word[section] * steps[section]
    return number
