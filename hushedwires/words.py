"""Words: rows of signs that tell how a pair of wires runs."""

from hushedwires.errors import BadCount, BadNumber, BadPoles, BadWord, NoPole, NoSection, TooMany
from hushedwires.lines import MOST_SECTIONS
from hushedwires.ratios import is_row, is_whole

MOST_LISTED = 12


def _check_sign_row(signs, low, high):
    if not is_row(signs, low, high):
        raise BadWord(0, "many")
    for index, sign in enumerate(signs):
        if not is_whole(sign, -1, 1) or sign == 0:
            raise BadWord(index, "sign")
    return tuple(signs)


def _check_first(signs):
    if signs[0] == -1:
        raise BadWord(0, "first")
    return signs


def check_signs(word):
    """The word as a tuple."""
    return _check_first(_check_sign_row(word, 1, MOST_SECTIONS))


def check_word(line, word):
    """The word of a line as a tuple."""
    return _check_first(_check_sign_row(word, len(line), len(line)))


def turned_word(signs):
    """The signs, all of them turned if the first is -1."""
    row = _check_sign_row(signs, 1, MOST_SECTIONS)
    return _opposite(row) if row[0] == -1 else row


def opposite_of(word):
    """All signs of a word turned; no word any more."""
    return _opposite(check_signs(word))


def _opposite(signs):
    return tuple([-sign for sign in signs])


def crossings_of(word):
    """The poles at which the sign differs from the sign before."""
    word = check_signs(word)
    return tuple([pole for pole in range(1, len(word)) if word[pole] != word[pole - 1]])


def check_poles(count, poles):
    """The poles of a line of so many sections, ascending."""
    if not is_row(poles, 0, count - 1):
        raise BadPoles()
    if not all([is_whole(pole, 1, count - 1) for pole in poles]):
        raise BadPoles()
    ascending = tuple(sorted(set(poles)))
    if len(ascending) != len(poles):
        raise BadPoles()
    return ascending


def word_with(count, poles):
    """The word with crossings at just these poles."""
    if not is_whole(count, 1, MOST_SECTIONS):
        raise BadCount()
    poles = check_poles(count, poles)
    signs = [1]
    for pole in range(1, count):
        signs.append(-signs[-1] if pole in poles else signs[-1])
    return tuple(signs)


def crossed_at(word, pole):
    """The word with all signs from the pole on turned."""
    word = check_signs(word)
    if not is_whole(pole, 1, len(word) - 1):
        raise NoPole(pole)
    return word[:pole] + _opposite(word[pole:])


def product_of(one, other):
    """The word of the products, sign by sign."""
    one = check_signs(one)
    other = check_signs(other)
    if len(one) != len(other):
        raise BadWord(0, "many")
    return tuple([sign * against for sign, against in zip(one, other)])


def backward_word(word):
    """The signs reversed, turned so that the first is 1."""
    return turned_word(check_signs(word)[::-1])


def cut_word(word, section):
    """The word with the sign of one section twice."""
    word = check_signs(word)
    if not is_whole(section, 0, len(word) - 1):
        raise NoSection(section)
    if len(word) == MOST_SECTIONS:
        raise BadWord(0, "many")
    return word[:section] + (word[section],) + word[section:]


def number_of_word(word):
    """The number of a word among all words of its count of signs, ascending."""
    number = 0
    for sign in check_signs(word):
        number = 2 * number + (1 if sign == -1 else 0)
    return number


def word_by_number(count, number):
    """The word of so many signs with this number."""
    if not is_whole(count, 1, MOST_SECTIONS):
        raise BadCount()
    if not is_whole(number, 0, (1 << (count - 1)) - 1):
        raise BadNumber()
    return _numbered(count, number)


def _numbered(count, number):
    return tuple([-1 if number >> place & 1 else 1 for place in reversed(range(count))])


def each_word(count):
    """All words of so many signs, ascending."""
    if not is_whole(count, 1, MOST_SECTIONS):
        raise BadCount()
    if count > MOST_LISTED:
        raise TooMany(MOST_LISTED)
    for number in range(1 << (count - 1)):
        yield _numbered(count, number)
