"""Layers: the unlike rows of sums of all beginnings of words, section by section."""

from hushedwires.beginnings import (
    count_of, counted_endings, packed_layers, packed_steps, word_of_number)
from hushedwires.errors import BadHum, BadHums
from hushedwires.lines import check_hum
from hushedwires.ratios import ZERO, is_ratio, is_row, long_plus, negative, times

MOST_HUMS = 60


class Layers:
    """Rows of sums, layer by layer, that show that no word is hushed."""

    def __init__(self, layers):
        self.layers = layers

    def __eq__(self, other):
        return isinstance(other, Layers) and self.layers == other.layers


def check_hums(line, hums):
    """The 0 to 60 hums of a line as a tuple of tuples."""
    if not is_row(hums, 0, MOST_HUMS):
        raise BadHums(0)
    return tuple([_checked_hum(line, index, hum) for index, hum in enumerate(hums)])


def _checked_hum(line, index, hum):
    try:
        return check_hum(len(line), hum)
    except BadHum:
        raise BadHums(index) from None


def layers_of(line, hums):
    """For each count of sections, from 0 on, the unlike rows of all beginnings, ascending."""
    hums = check_hums(line, hums)
    steps = packed_steps(line, hums)
    return _written_layers(line, hums, steps, packed_layers(steps))


def _written_layers(line, hums, steps, layers):
    rows = {0: (ZERO,) * len(hums)}
    written = [(rows[0],)]
    for section, layer in enumerate(layers[1:]):
        behind = _rows_behind(rows, steps[section], _weights_at(line, hums, section))
        rows = {number: behind[number] for number in layer}
        written.append(tuple(rows.values()))
    return tuple(written)


def _rows_behind(rows, step, weights):
    """The rows that lie one section on with either sign, by their packed rows."""
    behind = {}
    for number in rows:
        if number + step not in behind:
            behind[number + step] = _row_plus(rows[number], weights)
        if number - step not in behind:
            behind[number - step] = _row_minus(rows[number], weights)
    return behind


def _weights_at(line, hums, section):
    return [times(line.lengths[section], hum[section]) for hum in hums]


def _row_plus(row, weights):
    return tuple([long_plus(one, weight) for one, weight in zip(row, weights)])


def _row_minus(row, weights):
    return tuple([long_plus(one, negative(weight)) for one, weight in zip(row, weights)])


def first_word(line, hums):
    """The least word with noise 0 under each hum, or the Layers that show that there is none."""
    hums = check_hums(line, hums)
    steps = packed_steps(line, hums)
    layers = packed_layers(steps)
    endings = counted_endings(steps, layers)
    if count_of(endings) > 0:
        return word_of_number(steps, endings, 0)
    return Layers(_written_layers(line, hums, steps, layers))


def layers_fault(line, hums, layers):
    """What is wrong with Layers, or None."""
    hums = check_hums(line, hums)
    told = layers.layers
    if not is_row(told, len(line) + 1, len(line) + 1):
        return "many"
    if not all([isinstance(layer, (list, tuple)) for layer in told]):
        return "many"
    if not all([_is_sum_row(row, len(hums)) for layer in told for row in layer]):
        return "row"
    zeros = (ZERO,) * len(hums)
    if zeros not in told[0]:
        return "start"
    for section in range(len(line)):
        if not _leads_on(_weights_at(line, hums, section), section, told):
            return "step"
    return "end" if zeros in told[-1] else None


def _is_sum_row(thing, count):
    return isinstance(thing, tuple) and len(thing) == count and all([is_ratio(one) for one in thing])


def _leads_on(weights, section, layers):
    following = {row: True for row in layers[section + 1]}
    for row in layers[section]:
        if _row_plus(row, weights) not in following:
            return False
        # the first sign of a word is never -1
        if section > 0 and _row_minus(row, weights) not in following:
            return False
    return True
