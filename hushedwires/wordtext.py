"""Texts of words and hums."""

from hushedwires.errors import BadHum, BadText
from hushedwires.lines import MOST_SECTIONS
from hushedwires.linetext import ratio_at, ratio_parts
from hushedwires.ratios import is_ratio, ratio_text
from hushedwires.words import check_signs


def word_text(word):
    """The word as a text of + and -."""
    return "".join(["+" if sign == 1 else "-" for sign in check_signs(word)])


def words_text(words):
    """The texts of words, a row each."""
    return "\n".join([word_text(word) for word in words])


def hum_text(hum):
    """The ratios with one blank between them."""
    for index, entry in enumerate(hum):
        if not is_ratio(entry):
            raise BadHum(index)
    return " ".join([ratio_text(entry) for entry in hum])


def word_of(text):
    """The word that a text tells."""
    if not isinstance(text, str):
        raise BadText(0, "text")
    if not 1 <= len(text) <= MOST_SECTIONS:
        raise BadText(0, "many")
    for place, sign in enumerate(text):
        if sign not in ("+", "-"):
            raise BadText(place, "sign")
    if text[0] == "-":
        raise BadText(0, "first")
    return tuple([1 if sign == "+" else -1 for sign in text])


def words_of(text):
    """The words that a text tells, all of one count of signs."""
    if not isinstance(text, str):
        raise BadText(0, "text")
    words = []
    for place, row in enumerate(text.split("\n")):
        word = _word_at(place, row)
        if words and len(word) != len(words[0]):
            raise BadText(place, "count")
        words.append(word)
    return tuple(words)


def _word_at(place, row):
    try:
        return word_of(row)
    except BadText as wrong:
        raise BadText(place, wrong.what) from None


def hum_of(text):
    """The hum that a text tells."""
    return tuple([ratio_at(place, part) for place, part in enumerate(ratio_parts(text))])
