"""Further words: what can be added to a plan so that all that is asked of it stays."""

from hushedwires.beginnings import count_of, hushed_endings, is_hushed_row, packed_steps, word_of_number
from hushedwires.hums import signed_hum
from hushedwires.layers import first_word
from hushedwires.plans import asked_hums


def hums_for(plan, outside, between):
    """The hums under which a word has noise 0 just if it is a further word."""
    alone = asked_hums(plan.line, outside)
    paired = asked_hums(plan.line, between)
    return alone + tuple([signed_hum(word, hum) for word in plan.words for hum in paired])


def further_word(plan, outside, between):
    """The least further word, or the Layers that show that there is none."""
    return first_word(plan.line, hums_for(plan, outside, between))


def _steps_for(plan, outside, between):
    return packed_steps(plan.line, hums_for(plan, outside, between))


def all_further(plan, outside, between):
    """All further words, ascending."""
    steps = _steps_for(plan, outside, between)
    endings = hushed_endings(steps)
    for number in range(count_of(endings)):
        yield word_of_number(steps, endings, number)


def count_further(plan, outside, between):
    """How many further words there are."""
    return count_of(hushed_endings(_steps_for(plan, outside, between)))


def is_full(plan, outside, between):
    """Whether each further word is equal to a word of the plan."""
    steps = _steps_for(plan, outside, between)
    own = [word for word in sorted(set(plan.words)) if is_hushed_row(steps, word)]
    return len(own) == count_of(hushed_endings(steps))
