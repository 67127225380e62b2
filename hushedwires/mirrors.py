"""Words and lines that read backward as they are, or as their opposites."""

from hushedwires.errors import BadCount
from hushedwires.lines import MOST_SECTIONS
from hushedwires.ratios import is_whole, plus
from hushedwires.words import check_signs, opposite_of, word_by_number


def mirror_of(word):
    """What the word is read backward: itself ("alike"), its opposite ("turned") or neither (None)."""
    word = check_signs(word)
    if word[::-1] == word:
        return "alike"
    return "turned" if word[::-1] == opposite_of(word) else None


def mirrors_itself(line):
    """Whether lengths and steps between marks are the same from both ends."""
    middle = plus(line.marks[0], line.marks[-1])
    return line.lengths == line.lengths[::-1] and all(
        [plus(mark, other) == middle for mark, other in zip(line.marks, line.marks[::-1])])


def mirrored_words(count, *, turned=False):
    """All words of so many signs that are mirrored alike, or turned; ascending."""
    if not is_whole(count, 1, MOST_SECTIONS):
        raise BadCount()
    if turned and count % 2 == 1:
        # the sign in the middle would be its own opposite
        return
    half = (count + 1) // 2
    sign = -1 if turned else 1
    for number in range(1 << (half - 1)):
        ahead = word_by_number(half, number)
        yield ahead + tuple([sign * one for one in ahead[:count // 2][::-1]])
