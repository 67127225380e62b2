"""Forms: the noises of patterns as polynomials in the repeats."""

from hushedwires.errors import BadExtent, BadForm, BadPower, BadRepeats, BadRest
from hushedwires.patterns import FARTHEST
from hushedwires.ratios import ZERO, is_ratio_row, is_whole, minus, over, plus, power_of, times

MOST_POWER = 6
MOST_COEFFICIENTS = 9


def check_extent(extent, low=1):
    """An extent, or with low = 0 an extent or no section."""
    if not is_whole(extent, low, FARTHEST):
        raise BadExtent()
    return extent


def check_power(power):
    """Checks a power of the sections, from 0 to 6."""
    if not is_whole(power, 0, MOST_POWER):
        raise BadPower()


def _check_rest(pattern, rest):
    if not is_whole(rest, 0, pattern.period - 1):
        raise BadRest()


def _check_form(form):
    if not is_ratio_row(form, 1, MOST_COEFFICIENTS):
        raise BadForm()


def noise_at(pattern, power, extent):
    """The noise of the word at an extent under a power of the sections."""
    check_power(power)
    return any_noise(pattern, power, check_extent(extent))


def any_noise(pattern, power, extent):
    """The noise of the word at an extent under any power from 0 on."""
    repeats, rest = divmod(extent, pattern.period)
    return value_of(any_form(pattern, power, rest), repeats)


def form_of(pattern, power, rest):
    """The coefficients of the noise at repeats * period + rest, the constant first."""
    check_power(power)
    _check_rest(pattern, rest)
    return any_form(pattern, power, rest)


def any_form(pattern, power, rest):
    """The form for any power from 0 on."""
    differences = noise_differences(pattern, power, rest)
    # the noise is d[0] + n * (d[1] + (n - 1) / 2 * (d[2] + (n - 2) / 3 * (..)))
    form = ((differences[-1], 1),)
    for step in reversed(range(power + 1)):
        form = _times_next(form, step, (differences[step], 1))
    return form


def noise_differences(pattern, power, rest):
    """The first one of the noises, of their differences, of the differences of these, and so on."""
    values = _first_noises(pattern, power, rest, power + 2)
    firsts = []
    while values:
        firsts.append(values[0])
        values = [after - before for before, after in zip(values, values[1:])]
    return firsts


def _first_noises(pattern, power, rest, many):
    noises = []
    total = 0
    for section in range((many - 1) * pattern.period + rest + 1):
        if section % pattern.period == rest:
            noises.append(total)
        sign = pattern.signs[section % pattern.period]
        total = total + sign * power_of((section, 1), power)[0]
    return noises


def _times_next(form, step, constant):
    """The form times (n - step) / (step + 1), and the constant added."""
    raised = (ZERO,) + form
    lowered = tuple([times((step, 1), one) for one in form]) + (ZERO,)
    grown = [over(minus(one, other), (step + 1, 1)) for one, other in zip(raised, lowered)]
    return (plus(grown[0], constant),) + tuple(grown[1:])


def form_at(form, repeats):
    """The value of a form at some repeats."""
    _check_form(form)
    if not is_whole(repeats, 0, FARTHEST):
        raise BadRepeats()
    return value_of(form, repeats)


def value_of(form, repeats):
    """The value of a form at any whole number."""
    value = ZERO
    for one in form[::-1]:
        value = plus(times(value, (repeats, 1)), one)
    return value


def form_fault(pattern, power, rest, form):
    """The least repeats at which the value of a form is wrong, or None if it is right for all."""
    check_power(power)
    _check_rest(pattern, rest)
    _check_form(form)
    right = any_form(pattern, power, rest)
    for repeats in range(max(len(form), len(right))):
        if value_of(form, repeats) != value_of(right, repeats):
            return repeats
    return None
