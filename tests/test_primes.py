"""Point 6.8: prime words listed and counted."""

import itertools
import unittest
from types import GeneratorType

from hushedwires.errors import BadCount, BadLength, TooMany
from hushedwires.primes import count_primes, prime_words
from tests.reckon import WRONG_WHOLES, Case, all_words
from tests.test_folding import right_unfoldings


def counted(length, known={}):
    """The number of prime words by the sum of all nested words."""
    if length == 1:
        return 0
    if length not in known:
        parts = [part for part in range(2, length) if length % part == 0]
        total = 2 ** (length - 1) - sum(counted(part) * 2 ** (length // part - 1) for part in parts)
        primes = [part for part in parts + [length] if all(part % other for other in range(2, part))]
        for many in range(2, len(primes) + 1):
            for lot in itertools.combinations(primes, many):
                product = 1
                for prime in lot:
                    product *= prime
                total += (-1) ** many * 2 ** (length // product)
        known[length] = total
    return known[length]


class PrimesTest(Case):
    def test_words(self):
        self.assertIsInstance(prime_words(4), GeneratorType)
        for count in range(1, 13):
            right = [word for word in all_words(count) if len(right_unfoldings(word)) == 2]
            self.assertEqual(list(prime_words(count)), right)
            self.assertEqual(count_primes(count), len(right))
        self.assertEqual(list(prime_words(1)), [])
        self.assertEqual(list(prime_words(4)), [(1, 1, 1, -1), (1, 1, -1, 1), (1, -1, 1, 1), (1, -1, -1, -1)])

    def test_counts(self):
        for length in list(range(1, 61)) + [210, 211, 216, 239, 240]:
            self.assertEqual(count_primes(length), counted(length), length)
        self.assertEqual(count_primes(2), 2)
        self.assertEqual(count_primes(6), 18)
        self.assertEqual(count_primes(239), 2 ** 238)
        self.assertEqual(count_primes(30), 2 ** 29 - sum(count_primes(part) * 2 ** (30 // part - 1) for part in
                                                         (2, 3, 5, 6, 10, 15)) + 2 ** 5 + 2 ** 3 + 2 ** 2 - 2)

    def test_refuses(self):
        for thing in WRONG_WHOLES + [0, 25, -1]:
            self.refuses(BadCount(), prime_words, thing)
        for thing in (13, 24):
            self.refuses(TooMany(12), prime_words, thing)
        for thing in WRONG_WHOLES + [0, -1, 241, 10 ** 30]:
            self.refuses(BadLength(thing), count_primes, thing)


if __name__ == "__main__":
    unittest.main()
