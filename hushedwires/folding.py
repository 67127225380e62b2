"""Words that fold: that are nested of an outer and an inner word."""

from hushedwires.errors import NoFold
from hushedwires.ratios import is_whole
from hushedwires.words import check_signs


def fold_lengths(word):
    """All lengths at which the word folds, ascending."""
    word = check_signs(word)
    return tuple([length for length in range(1, len(word) + 1)
                  if len(word) % length == 0 and _folds_at(word, length)])


def _folds_at(word, length):
    return all([sign == word[section - section % length] * word[section % length]
                for section, sign in enumerate(word)])


def unfold_word(word, length):
    """The outer and the inner word of which the word is nested."""
    word = check_signs(word)
    if not is_whole(length, 1, len(word)) or length not in fold_lengths(word):
        raise NoFold(length)
    return word[::length], word[:length]


def unfoldings_of(word):
    """The couples of outer and inner words for all fold lengths, ascending."""
    return tuple([unfold_word(word, length) for length in fold_lengths(word)])


def is_prime_word(word):
    """Whether the word has two signs or more and folds at 1 and its own length alone."""
    return len(fold_lengths(word)) == 2
