"""Wrong poles: crossed though the word is not, or the other way about; and tests that find them."""

from hushedwires.errors import BadAmount, BadHum, BadMost, BadReadings, BadTests, NoLots
from hushedwires.hums import noise_of, noise_parts
from hushedwires.lines import check_hum
from hushedwires.lots import in_each, lots_upto
from hushedwires.ratios import common_bottom, is_ratio, is_row, is_whole, over
from hushedwires.words import check_poles, check_word, product_of, word_with

MOST_WRONG = 3
MOST_TESTS = 6


def wrong_word(line, word, poles):
    """The word as it is with these wrong poles."""
    word = check_word(line, word)
    poles = check_poles(len(line), poles)
    return product_of(word, word_with(len(line), poles))


def check_most(most):
    """The most wrong poles of a lot, from 0 to 3."""
    if not is_whole(most, 0, MOST_WRONG):
        raise BadMost()
    return most


def wrong_lots(line, most):
    """All lots with at most so many poles, shorter ones first, else ascending."""
    return lots_upto(1, len(line) - 1, check_most(most))


def check_tests(line, tests):
    """The 1 to 6 tests of a line as a tuple of tuples."""
    if not is_row(tests, 1, MOST_TESTS):
        raise BadTests(0, "many")
    return tuple([_checked_test(line, index, hum) for index, hum in enumerate(tests)])


def _checked_test(line, index, hum):
    try:
        return check_hum(len(line), hum)
    except BadHum:
        raise BadTests(index, "hum") from None


def read_tests(line, word, tests):
    """The readings of all tests: the word's noises under them."""
    word = check_word(line, word)
    return tuple([noise_of(line, word, hum) for hum in check_tests(line, tests)])


def whole_running(line, word, hum):
    """A whole number that makes the running noises under a hum whole, and these times it."""
    parts = noise_parts(line, word, hum)
    bottom = common_bottom(parts)
    running = [0]
    for part in parts:
        running.append(running[-1] + part[0] * (bottom // part[1]))
    return bottom, running


def reading_with(running, lot):
    """The noise with the wrong poles of a lot, times what makes it whole."""
    sign = 1
    reading = 0
    for pole in lot:
        # up to here the noise counts with this sign, from here on with the other one
        reading = reading + 2 * sign * running[pole]
        sign = -sign
    return reading + sign * running[-1]


def lots_that_fit(line, word, tests, readings, most):
    """All lots with at most so many poles with which the word has just these readings."""
    word = check_word(line, word)
    tests = check_tests(line, tests)
    _check_readings(tests, readings)
    lots = wrong_lots(line, most)
    for hum, reading in zip(tests, readings):
        bottom, running = whole_running(line, word, hum)
        whole, rest = divmod(reading[0] * bottom, reading[1])
        lots = [lot for lot in lots if rest == 0 and reading_with(running, lot) == whole]
    return tuple(lots)


def _check_readings(tests, readings):
    if not is_row(readings, len(tests), len(tests)):
        raise BadReadings(0, "many")
    for index, reading in enumerate(readings):
        if not is_ratio(reading):
            raise BadReadings(index, "reading")


def sure_wrong(line, word, tests, readings, most):
    """The poles that are in every lot that fits."""
    return in_each(_some_that_fit(line, word, tests, readings, most))


def sure_right(line, word, tests, readings, most):
    """The poles that are in no lot that fits."""
    lots = _some_that_fit(line, word, tests, readings, most)
    return tuple([pole for pole in range(1, len(line)) if not any([pole in lot for lot in lots])])


def _some_that_fit(line, word, tests, readings, most):
    lots = lots_that_fit(line, word, tests, readings, most)
    if not lots:
        raise NoLots()
    return lots


def telling_hum(line):
    """The hum under which unlike words have unlike noises."""
    return tuple([over((1 << section, 1), length) for section, length in enumerate(line.lengths)])


def word_of_reading(line, reading):
    """The word whose noise under the telling hum is the reading, or None."""
    if not is_ratio(reading):
        raise BadAmount()
    # the places of the sections with + make up half of the reading and of all places
    places, rest = divmod(reading[0] + (1 << len(line)) - 1, 2)
    if reading[1] != 1 or rest != 0 or not 0 < places < 1 << len(line) or places & 1 == 0:
        return None
    return tuple([1 if places >> section & 1 else -1 for section in range(len(line))])
