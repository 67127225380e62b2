"""Prime words, listed and counted."""

from hushedwires.errors import BadLength
from hushedwires.folding import is_prime_word
from hushedwires.ratios import is_whole
from hushedwires.words import each_word

LONGEST = 240


def prime_words(count):
    """All prime words of so many signs, ascending."""
    for word in each_word(count):
        if is_prime_word(word):
            yield word


def count_primes(length):
    """How many prime words of this length there are."""
    if not is_whole(length, 1, LONGEST):
        raise BadLength(length)
    counts = {1: 0}
    for part in _parts_of(length):
        if part > 1:
            nested = sum([counts[inner] * (1 << (part // inner - 1))
                          for inner in _parts_of(part) if 1 < inner < part])
            counts[part] = (1 << (part - 1)) - nested - _counted_again(part)
    return counts[length]


def _parts_of(length):
    return [part for part in range(1, length + 1) if length % part == 0]


def _counted_again(length):
    """Less the words that the nested ones count several times: those of two prime lengths, and so on."""
    products = [(1, 0)]
    for prime in _primes_of(length):
        products = products + [(product * prime, many + 1) for product, many in products]
    again = 0
    for product, many in products:
        if many > 1:
            words = 1 << (length // product)
            again = again - words if many % 2 == 0 else again + words
    return again


def _primes_of(length):
    return [part for part in _parts_of(length) if len(_parts_of(part)) == 2]
