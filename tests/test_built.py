"""Point 6.10: the shortest words of an order."""

import unittest

from hushedwires.built import shortest_for
from hushedwires.errors import BadOrder
from hushedwires.lines import Line
from tests.reckon import WRONG_WHOLES, Case, all_words, order


class ShortestTest(Case):
    def test_words(self):
        self.assertEqual(shortest_for(0), (1,))
        self.assertEqual(shortest_for(1), (1, -1))
        self.assertEqual(shortest_for(2), (1, -1, -1, 1))
        for number in range(5):
            word = shortest_for(number)
            self.assertEqual(word, tuple((-1) ** bin(section).count("1") for section in range(2 ** number)))
            self.assertEqual(order(Line.even(len(word)), word), number)

    def test_shortest(self):
        for number in range(4):
            found = [word for count in range(1, 2 ** number + 1) for word in all_words(count)
                     if order(Line.even(count), word) >= number]
            self.assertEqual(found, [shortest_for(number)])

    def test_refuses(self):
        for thing in WRONG_WHOLES + [-1, 5]:
            self.refuses(BadOrder(), shortest_for, thing)


if __name__ == "__main__":
    unittest.main()
