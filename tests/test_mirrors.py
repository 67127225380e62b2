"""Point 6.5: mirrored words and lines."""

import itertools
import unittest
from types import GeneratorType

from hushedwires.errors import BadCount
from hushedwires.lines import Line
from hushedwires.mirrors import mirror_of, mirrored_words, mirrors_itself
from hushedwires.nesting import nest_words
from hushedwires.words import backward_word
from tests.reckon import WRONG_WHOLES, Case, all_words, fractions, line_from, order, random_line, random_word, ratios, seeded
from tests.test_doubling import bad_words


def right_mirror(word):
    backward = tuple(reversed(word))
    if backward == word:
        return "alike"
    return "turned" if all(one == -other for one, other in zip(backward, word)) else None


def mirrored_line(source, count):
    """A random line with lengths and marks that are the same from both ends."""
    line = random_line(source, count)
    marks, lengths = fractions(line.marks), fractions(line.lengths)
    return line_from([one + other for one, other in zip(lengths, lengths[::-1])],
                     [one - other for one, other in zip(marks, marks[::-1])])


class MirrorOfTest(Case):
    def test_small_words(self):
        self.assertEqual(mirror_of([1, -1, 1]), "alike")
        self.assertEqual(mirror_of((1, -1)), "turned")
        self.assertIsNone(mirror_of((1, 1, -1)))
        self.assertEqual(mirror_of((1,)), "alike")
        for count in range(1, 9):
            for word in all_words(count):
                told = mirror_of(word)
                self.assertEqual(told, right_mirror(word))
                self.assertEqual(backward_word(word) == word, told is not None)

    def test_nested_words(self):
        for outer in all_words(3) + all_words(4):
            for inner in all_words(3) + all_words(2) + all_words(4):
                told = mirror_of(nest_words(outer, inner))
                both = [mirror_of(outer), mirror_of(inner)]
                self.assertEqual(told is None, None in both)
                if told is not None:
                    self.assertEqual(told == "turned", both.count("turned") == 1)

    def test_orders(self):
        source = seeded(65)
        kinds = []
        for _ in range(200):
            count = source.randint(1, 7)
            line = source.choice((Line.even(count), mirrored_line(source, count)))
            self.assertIs(mirrors_itself(line), True)
            for word in source.sample(all_words(count), min(6, 2 ** (count - 1))):
                kind = mirror_of(word)
                kinds.append(kind)
                if kind is not None:
                    self.assertEqual(order(line, word) % 2, 0 if kind == "alike" else 1)
        self.assertGreater(min(kinds.count("alike"), kinds.count("turned")), 50)

    def test_refuses(self):
        bad_words(self, mirror_of)


class LineTest(Case):
    def test_small(self):
        for lengths, marks, right in (
                ([1], [5], True), ([1, 1], [0, 3], True), ([1, 2], [0, 3], False), ([1, 2, 1], [0, 1, 2], True),
                ([1, 2, 1], [0, 1, 3], False), ([1, 2, 2, 1], [-4, 0, 1, 5], True), ([1, 2, 2, 1], [-4, 0, 1, 6], False),
                ([1, 2, 3, 1], [-4, 0, 1, 5], False), ([1, 1, 1, 1], [0, 1, 3, 4], True), ([1, 1, 1, 1], [0, 1, 2, 4], False)):
            self.assertIs(mirrors_itself(line_from(lengths, marks)), right)

    def test_random_lines(self):
        source = seeded(66)
        for _ in range(200):
            line = random_line(source, source.randint(1, 4))
            marks = fractions(line.marks)
            right = line.lengths == line.lengths[::-1] and len({a + b for a, b in zip(marks, marks[::-1])}) == 1
            self.assertIs(mirrors_itself(line), right)
            back = line.backward()
            self.assertEqual(right, line == back.shifted(
                ratios(marks[0] - fractions(back.marks)[0])[0]))


class MirroredWordsTest(Case):
    def test_small_counts(self):
        for count in range(1, 11):
            self.assertEqual(list(mirrored_words(count)),
                             [word for word in all_words(count) if right_mirror(word) == "alike"])
            self.assertEqual(list(mirrored_words(count, turned=False)), list(mirrored_words(count)))
            self.assertEqual(list(mirrored_words(count, turned=True)),
                             [word for word in all_words(count) if right_mirror(word) == "turned"])
        self.assertEqual(list(mirrored_words(3)), [(1, 1, 1), (1, -1, 1)])
        self.assertEqual(list(mirrored_words(4, turned=True)), [(1, 1, -1, -1), (1, -1, 1, -1)])

    def test_long_words(self):
        self.assertIsInstance(mirrored_words(24), GeneratorType)
        self.assertEqual(next(mirrored_words(24, turned=True)), (1,) * 12 + (-1,) * 12)
        for count, turned, many in ((24, False, 2048), (24, True, 2048), (23, False, 2048), (23, True, 0)):
            words = list(mirrored_words(count, turned=turned))
            self.assertEqual(len(words), many)
            self.assertEqual(words, sorted(set(words), reverse=True))
            for word in itertools.islice(words, 0, None, 100):
                self.assertEqual(mirror_of(word), "turned" if turned else "alike")

    def test_refuses(self):
        for thing in WRONG_WHOLES + [0, 25, -1]:
            self.refuses(BadCount(), mirrored_words, thing)
            self.refuses(BadCount(), mirrored_words, thing, turned=True)
        with self.assertRaises(TypeError):
            mirrored_words(4, True)

    def test_random_backward(self):
        source = seeded(67)
        for _ in range(50):
            word = random_word(source, source.randint(1, 24))
            self.assertEqual(mirror_of(word), right_mirror(word))


if __name__ == "__main__":
    unittest.main()
