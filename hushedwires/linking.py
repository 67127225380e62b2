"""Rows of links: prime words, the outermost first, that words are nested of."""

from hushedwires.errors import BadLinks, BadWord, NoExchange, TooMany
from hushedwires.folding import fold_lengths, is_prime_word
from hushedwires.lines import MOST_SECTIONS
from hushedwires.nesting import nested_signs
from hushedwires.ratios import is_row, is_whole
from hushedwires.words import check_signs

MOST_LINKS = 8


def check_links(links):
    """A row of 0 to 8 prime words as a tuple of tuples."""
    if not is_row(links, 0, MOST_LINKS):
        raise BadLinks(0, "many")
    return tuple([_checked_link(index, link) for index, link in enumerate(links)])


def _checked_link(index, link):
    try:
        word = check_signs(link)
    except BadWord:
        raise BadLinks(index, "word") from None
    if not is_prime_word(word):
        raise BadLinks(index, "prime")
    return word


def nest_links(links):
    """The word nested of all links."""
    word = (1,)
    for link in check_links(links):
        word = nested_signs(word, link)
        if len(word) > MOST_SECTIONS:
            raise TooMany(MOST_SECTIONS)
    return word


def all_links(word):
    """All rows of links that the word is nested of, ascending by lengths from the innermost on."""
    word = check_signs(word)
    for lengths in _length_rows(fold_lengths(word), 1):
        yield _links_at(word, lengths)


def links_of(word):
    """The first row of links that the word is nested of."""
    word = check_signs(word)
    return _links_at(word, _length_rows(fold_lengths(word), 1)[0])


def _length_rows(folds, last):
    """All rows of fold lengths up to the whole word with prime links between, ascending."""
    if last == folds[-1]:
        return [()]
    above = [length for length in folds if length > last and length % last == 0]
    rows = []
    for length in above:
        # a fold length between would part the link
        if not any([length % other == 0 for other in above if other < length]):
            rows = rows + [(length,) + row for row in _length_rows(folds, length)]
    return rows


def _links_at(word, lengths):
    links = []
    last = 1
    for length in lengths:
        links.append(word[:length:last])
        last = length
    return tuple(links[::-1])


def exchange_links(links, place):
    """The row with the links at this place and behind it exchanged by lengths."""
    links = check_links(links)
    exchanged = _exchanged(links, place) if is_whole(place, 0, len(links) - 2) else None
    if exchanged is None:
        raise NoExchange(place)
    return exchanged


def _exchanged(links, place):
    outer = links[place]
    inner = links[place + 1]
    signs = nested_signs(outer, inner)
    changes = len([sign for sign, other in zip(signs, signs[1:]) if sign != other])
    if len(outer) == len(inner) or 0 < changes < len(signs) - 1:
        return None
    length = len(outer)
    return links[:place] + (signs[::length], signs[:length]) + links[place + 2:]


def way_between(links, other):
    """Exchanges that lead from links to the other row, or None if they nest to unlike signs."""
    links = check_links(links)
    other = check_links(other)
    if len(links) != len(other):
        return None
    way = []
    for end in reversed(range(len(other))):
        # if both nest to the same signs, the nearest link of this length can be brought here
        starts = [place for place in range(end + 1) if len(links[place]) == len(other[end])]
        for place in range(starts[-1] if starts else end, end):
            links = _exchanged(links, place)
            if links is None:
                return None
            way.append(place)
        if links[end] != other[end]:
            return None
    return tuple(way)


def way_fault(links, other, way):
    """What is wrong with a way from links to the other row, or None."""
    links = check_links(links)
    other = check_links(other)
    if way is None:
        return None if way_between(links, other) is None else "missing"
    if not isinstance(way, (list, tuple)) or not all([is_whole(place) for place in way]):
        return "places"
    for place in way:
        if not is_whole(place, 0, len(links) - 2):
            return "exchange"
        links = _exchanged(links, place)
        if links is None:
            return "exchange"
    return None if links == other else "end"
