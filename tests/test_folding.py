"""Point 6.6 and the prime words of 6.7: words that fold."""

import unittest
from math import gcd, lcm

from hushedwires.errors import NoFold
from hushedwires.folding import fold_lengths, is_prime_word, unfold_word, unfoldings_of
from hushedwires.nesting import nest_words
from tests.reckon import WRONG_WHOLES, Case, all_words, random_word, seeded
from tests.test_doubling import bad_words


def nested(outer, inner):
    """The nested word, sign by sign."""
    return tuple(outer[section // len(inner)] * inner[section % len(inner)]
                 for section in range(len(outer) * len(inner)))


def right_unfoldings(word):
    """All couples that nest to the word, by every length of an inner word."""
    return tuple((word[::length], word[:length]) for length in range(1, len(word) + 1)
                 if len(word) % length == 0 and nested(word[::length], word[:length]) == word)


def is_plain(signs):
    """Whether signs are all + or alternate, from + on."""
    return all(sign == 1 for sign in signs) or all(sign == (-1) ** place for place, sign in enumerate(signs))


def folding_words():
    """Small words, all of them, and longer ones that fold at several lengths."""
    source = seeded(66)
    words = [word for count in range(1, 11) for word in all_words(count)]
    for lengths in ((2, 3, 2), (3, 2, 2), (2, 2, 3), (2, 2, 2, 3), (3, 2, 2, 2), (4, 6), (6, 4), (5, 4), (2, 10), (11, 2)):
        for _ in range(20):
            word = (1,)
            for length in lengths:
                parts = ((1,) * length, (1, -1) * (length // 2) + (1,) * (length % 2), random_word(source, length))
                word = nested(word, source.choice(parts))
            words.append(word)
    return words + [(1,) * 24, (1, -1) * 12]


class FoldTest(Case):
    def test_examples(self):
        self.assertEqual(fold_lengths([1, -1, -1, 1]), (1, 2, 4))
        self.assertEqual(fold_lengths((1, 1, -1, 1)), (1, 4))
        self.assertEqual(fold_lengths((1,)), (1,))
        self.assertEqual(fold_lengths((1,) * 12), (1, 2, 3, 4, 6, 12))
        self.assertEqual(fold_lengths((1, -1) * 12), (1, 2, 3, 4, 6, 8, 12, 24))
        self.assertEqual(unfold_word([1, -1, -1, 1], 2), ((1, -1), (1, -1)))
        self.assertEqual(unfold_word((1, -1, -1, 1), 1), ((1, -1, -1, 1), (1,)))
        self.assertEqual(unfold_word((1, -1, -1, 1), 4), ((1,), (1, -1, -1, 1)))

    def test_against_nested_words(self):
        many = []
        for word in folding_words():
            right = right_unfoldings(word)
            lengths = fold_lengths(word)
            self.assertEqual(lengths, tuple(len(inner) for _, inner in right))
            self.assertEqual(unfoldings_of(word), right)
            for length in range(1, len(word) + 2):
                if length in lengths:
                    told = unfold_word(word, length)
                    self.assertIn(told, right)
                    self.assertEqual(len(told[1]), length)
                    self.assertEqual(nest_words(*told), word)
                else:
                    self.refuses(NoFold(length), unfold_word, word, length)
            self.assertIs(is_prime_word(word), len(word) > 1 and len(right) == 2)
            many.append(len(lengths))
        for count in (1, 2, 3, 4, 5, 6, 8):
            self.assertIn(count, many)

    def test_divisors_and_multiples(self):
        crossed = 0
        for word in folding_words():
            lengths = fold_lengths(word)
            for one in lengths:
                for other in lengths:
                    divisor, multiple = gcd(one, other), lcm(one, other)
                    self.assertIn(divisor, lengths)
                    self.assertIn(multiple, lengths)
                    if divisor not in (one, other):
                        self.assertTrue(is_plain(word[:multiple:divisor]))
                        crossed += 1
        self.assertGreater(crossed, 100)

    def test_refuses(self):
        bad_words(self, fold_lengths)
        bad_words(self, unfold_word, 1)
        bad_words(self, unfoldings_of)
        bad_words(self, is_prime_word)
        for thing in WRONG_WHOLES + [0, -1, 3, 5, 8, (1, 1)]:
            self.refuses(NoFold(thing), unfold_word, (1, 1, 1, 1), thing)
        self.refuses(NoFold(2), unfold_word, (1, 1, -1, 1), 2)


class PrimeTest(Case):
    def test_small(self):
        for word, right in (((1,), False), ((1, 1), True), ((1, -1), True), ((1, 1, 1), True), ((1,) * 4, False),
                            ((1, 1, -1, 1), True), ((1, 1, -1, -1), False), ((1, -1) * 3, False), ((1,) * 23, True)):
            self.assertIs(is_prime_word(word), right)


if __name__ == "__main__":
    unittest.main()
