"""Lists of all words that are hushed for a span, and numbers in them."""

from hushedwires.beginnings import (
    count_of, counted_endings, hushed_endings, number_of_hushed, packed_layers, packed_steps, word_of_number)
from hushedwires.errors import BadNumber, NotHushed
from hushedwires.plans import asked_hums
from hushedwires.ratios import is_whole
from hushedwires.spans import heard_by
from hushedwires.words import check_word


def _steps_for(line, span):
    return packed_steps(line, asked_hums(line, span))


def hushed_words(line, span):
    """All words that are hushed for the span, ascending; all words for None."""
    steps = _steps_for(line, span)
    endings = hushed_endings(steps)
    for number in range(count_of(endings)):
        yield word_of_number(steps, endings, number)


def count_hushed(line, span):
    """How many words are hushed for the span."""
    return count_of(hushed_endings(_steps_for(line, span)))


def hushed_number(line, span, word):
    """The number of a hushed word in the list of all hushed words."""
    steps = _steps_for(line, span)
    word = check_word(line, word)
    heard = None if span is None else heard_by(line, word, span)
    if heard is not None:
        raise NotHushed(heard.hum)
    return number_of_hushed(steps, hushed_endings(steps), word)


def hushed_by_number(line, span, number):
    """The word with this number in the list of all hushed words."""
    steps = _steps_for(line, span)
    endings = hushed_endings(steps)
    if not is_whole(number, 0, count_of(endings) - 1):
        raise BadNumber()
    return word_of_number(steps, endings, number)


def least_crossed(line, span):
    """The hushed word with the fewest crossings, the least of these; None if there is none."""
    steps = _steps_for(line, span)
    layers = packed_layers(steps)
    endings = counted_endings(steps, layers)
    if count_of(endings) == 0:
        return None
    fewest = _fewest_crossings(steps, endings)
    row = steps[0]
    signs = [1]
    for section in range(1, len(steps)):
        sign, _ = _best_sign(fewest[section + 1], row, steps[section], signs[-1])
        signs.append(sign)
        row = row + sign * steps[section]
    return tuple(signs)


def _fewest_crossings(steps, endings):
    """For each layer from 1 on: the fewest crossings to come, by row and by the last sign."""
    fewest = {(0, 1): 0, (0, -1): 0}
    found = [fewest]
    for section in reversed(range(1, len(steps))):
        before = {}
        for row in endings[section]:
            for last in (1, -1):
                _, many = _best_sign(fewest, row, steps[section], last)
                before[(row, last)] = many
        fewest = before
        found.append(fewest)
    # layer 0, where no sign is told yet, has no entry of its own
    return [None] + found[::-1]


def _best_sign(fewest, row, step, last):
    """The sign behind which the fewest crossings come, + if both are alike, and how many."""
    ahead = fewest.get((row + step, 1))
    back = fewest.get((row - step, -1))
    if ahead is not None and last == -1:
        ahead = ahead + 1
    if back is not None and last == 1:
        back = back + 1
    if back is None or (ahead is not None and ahead <= back):
        return 1, ahead
    return -1, back
