"""Point 6.7: rows of links, exchanges and ways."""

import unittest
from itertools import permutations
from types import GeneratorType

from hushedwires.errors import BadLinks, BadWord, NoExchange, TooMany
from hushedwires.lines import Line
from hushedwires.linking import (
    all_links, check_links, exchange_links, links_of, nest_links, way_between, way_fault)
from hushedwires.orders import order_of
from tests.reckon import WRONG_WHOLES, Case, all_words, no_rows, random_word, seeded
from tests.test_doubling import bad_words
from tests.test_folding import folding_words, is_plain, nested, right_unfoldings

PLAIN_3, TURN_2, TURN_3 = (1, 1, 1), (1, -1), (1, -1, 1)
NUMBERS = (2, 3, 5, 7, 11, 13, 17, 19)


def plain(length):
    return (1,) * length


def turning(length):
    return tuple((-1) ** place for place in range(length))


def is_prime(word):
    return len(word) > 1 and len(right_unfoldings(word)) == 2


def nest(links):
    word = (1,)
    for link in links:
        word = nested(word, link)
    return word


def right_rows(word):
    """All rows of links of a word, by every prime inner word first."""
    if len(word) == 1:
        return [()]
    rows = []
    for outer, inner in right_unfoldings(word):
        if is_prime(inner):
            rows += [row + (inner,) for row in right_rows(outer)]
    return sorted(rows, key=lambda row: [len(link) for link in reversed(row)])


def follow(links, way):
    for place in way:
        links = exchange_links(links, place)
    return links


class CheckTest(Case):
    calls = [(check_links, ()), (nest_links, ()), (exchange_links, (0,)), (way_between, ([],)),
             (way_fault, ([], None))]

    def test_kept(self):
        self.assertEqual(check_links([[1, -1], (1, 1, 1)]), ((1, -1), (1, 1, 1)))
        self.assertEqual([type(link) for link in check_links([[1, -1], (1, 1, 1)])], [tuple, tuple])
        self.assertEqual(check_links([]), ())
        self.assertEqual(check_links(((1, -1),) * 8), ((1, -1),) * 8)

    def test_refuses(self):
        for call, more in self.calls:
            for thing in no_rows() + [[(1, -1)] * 9, [None] * 9]:
                self.refuses(BadLinks(0, "many"), call, thing, *more)
            for thing in no_rows() + [(), (-1, 1), (1, 0), (1, True), (1,) * 25]:
                self.refuses(BadLinks(1, "word"), call, [(1, 1), thing, None], *more)
            for thing in ((1,), (1,) * 4, (1, -1, -1, 1), (1, -1) * 3):
                self.refuses(BadLinks(0, "prime"), call, [thing, None], *more)
                self.refuses(BadLinks(2, "prime"), call, [(1, -1), (1, 1), list(thing), (1,)], *more)
        for call, more in ((way_between, ()), (way_fault, (None,))):
            self.refuses(BadLinks(0, "many"), call, [], None, *more)
            self.refuses(BadLinks(1, "word"), call, [], [(1, 1), ()], *more)
            self.refuses(BadLinks(0, "prime"), call, [(1, -1)], [(1,)], *more)
            self.refuses(BadLinks(0, "prime"), call, [(1,)], [None], *more)


class LinksOfTest(Case):
    def test_nest(self):
        self.assertEqual(nest_links([]), (1,))
        self.assertEqual(nest_links([PLAIN_3, TURN_2]), (1, -1) * 3)
        self.assertEqual(nest_links([TURN_2, (1, 1), PLAIN_3, TURN_2]), nest([TURN_2, (1, 1), PLAIN_3, TURN_2]))
        self.refuses(TooMany(24), nest_links, [(1, -1)] * 5)
        self.refuses(TooMany(24), nest_links, [plain(5)] * 8)
        self.refuses(BadLinks(7, "word"), nest_links, [plain(5)] * 7 + [()])

    def test_examples(self):
        self.assertIsInstance(all_links((1,)), GeneratorType)
        self.assertEqual(list(all_links((1,))), [()])
        self.assertEqual(links_of((1,)), ())
        self.assertEqual(list(all_links([1, -1] * 3)), [(PLAIN_3, TURN_2), (TURN_2, TURN_3)])
        self.assertEqual(list(all_links((1, -1, -1, 1))), [(TURN_2, TURN_2)])
        self.assertEqual([[len(link) for link in row] for row in all_links((1,) * 24)],
                         [[3, 2, 2, 2], [2, 3, 2, 2], [2, 2, 3, 2], [2, 2, 2, 3]])

    def test_against_all_rows(self):
        many = []
        for word in folding_words():
            right = right_rows(word)
            told = list(all_links(word))
            self.assertEqual(told, right)
            self.assertEqual(links_of(word), right[0])
            for row in told:
                self.assertEqual(nest_links(row), word)
                self.assertEqual(check_links(row), row)
            self.check_rows(told)
            many.append(len(told))
        for count in (1, 2, 3, 4):
            self.assertIn(count, many)

    def check_rows(self, rows):
        """Two rows of one word have the same lengths and orders, and exchanges lead from one to the other."""
        for row in rows[1:]:
            self.assertEqual(sorted(map(len, row)), sorted(map(len, rows[0])))
            orders = [sorted(order_of(Line.even(len(link)), link) for link in one) for one in (row, rows[0])]
            self.assertEqual(*orders)
            for one, other in ((rows[0], row), (row, rows[0])):
                self.assertEqual(follow(one, way_between(one, other)), other)

    def test_refuses(self):
        bad_words(self, all_links)
        bad_words(self, links_of)


class ExchangeTest(Case):
    def test_example(self):
        self.assertEqual(exchange_links([PLAIN_3, list(TURN_2)], 0), (TURN_2, TURN_3))
        self.assertEqual(exchange_links((TURN_2, TURN_3), 0), (PLAIN_3, TURN_2))
        self.assertEqual(exchange_links([TURN_2, PLAIN_3, (1, 1), TURN_3], 1), (TURN_2, (1, 1), PLAIN_3, TURN_3))

    def test_all_small_couples(self):
        links = [word for count in range(2, 6) for word in all_words(count) if is_prime(word)] + [
            plain(7), turning(7), plain(23), turning(23)]
        exchanged = 0
        for outer in links:
            for inner in links:
                word = nested(outer, inner)
                if len(outer) != len(inner) and is_plain(word):
                    told = exchange_links([outer, inner], 0)
                    self.assertEqual([len(link) for link in told], [len(inner), len(outer)])
                    self.assertEqual(nest(told), word)
                    self.assertEqual(check_links(told), told)
                    self.assertEqual(exchange_links(told, 0), (outer, inner))
                    exchanged += 1
                else:
                    self.refuses(NoExchange(0), exchange_links, [outer, inner], 0)
        self.assertGreater(exchanged, 30)

    def test_places(self):
        row = [plain(2), plain(3), plain(2), plain(3), plain(5)]
        for place in range(4):
            told = exchange_links(row, place)
            self.assertEqual(told, tuple(row[:place] + [row[place + 1], row[place]] + row[place + 2:]))
        for thing in WRONG_WHOLES + [-1, 4, 5]:
            self.refuses(NoExchange(thing), exchange_links, row, thing)
        for row in ([], [plain(2)]):
            for thing in (0, 1, -1, -2):
                self.refuses(NoExchange(thing), exchange_links, row, thing)


class WayTest(Case):
    def check(self, one, other):
        """A way, if both rows are known to nest to the same signs."""
        way = way_between(one, other)
        self.assertIs(type(way), tuple)
        self.assertEqual(follow(check_links(one), way), check_links(other))
        self.assertIsNone(way_fault(one, other, way))
        self.assertIsNone(way_fault(one, other, list(way)))
        self.assertEqual(way_fault(one, other, None), "missing")

    def test_small_rows(self):
        source = seeded(67)
        links = [word for count in range(2, 4) for word in all_words(count)] + [(1, 1, -1, 1), plain(5), turning(5)]
        told = []
        for _ in range(1500):
            rows = [[source.choice(links) for _ in range(source.randint(0, 3))] for _ in range(2)]
            if source.random() < 0.5:
                rows[1] = source.sample(rows[0], len(rows[0]))
            if nest(rows[0]) == nest(rows[1]):
                self.check(*rows)
                told.append(way_between(*rows))
            else:
                self.assertIsNone(way_between(*rows))
                self.assertIsNone(way_fault(*rows, None))
        self.assertGreater(told.count(()), 20)
        self.assertGreater(sum(len(way) > 0 for way in told), 10)

    def test_led_by_exchanges(self):
        source = seeded(68)
        for _ in range(100):
            row = [source.choice((plain(number), plain(number), turning(number)))
                   for number in source.choices((2, 3, 5, 7), k=source.randint(2, 8))]
            other = check_links(row)
            for _ in range(60):
                place = source.randint(0, len(row) - 2)
                try:
                    other = exchange_links(other, place)
                except NoExchange:
                    continue
            self.check(row, other)

    def test_long_rows(self):
        row = [plain(number) for number in NUMBERS]
        self.check(row, row[::-1])
        self.check(row[::-1], row)
        rows = [plain(3), plain(5), turning(2)]
        for places in permutations(rows[:2]):
            self.check(rows, list(places) + [turning(2)])
        self.check([plain(3), plain(5), turning(2)], [turning(2), turning(3), turning(5)])
        self.assertIsNone(way_between(row, row[:-1] + [turning(19)]))
        self.assertIsNone(way_between(row, row[:-1]))
        self.assertIsNone(way_between([turning(2)] + row[1:], row[1:] + [turning(2)]))
        # a link that is neither all + nor alternating stands fast
        stiff = (1, 1, -1, 1)
        self.check([plain(2), plain(3), stiff, plain(5), plain(3)], [plain(3), plain(2), stiff, plain(3), plain(5)])
        self.assertIsNone(way_between([plain(2), stiff, plain(3)], [plain(2), plain(3), stiff]))

    def test_equal_rows(self):
        source = seeded(69)
        for _ in range(20):
            row = [word for word in (random_word(source, source.randint(2, 24)) for _ in range(6)) if is_prime(word)]
            self.assertEqual(way_between(row, [list(link) for link in row]), ())
        self.assertEqual(way_between([], []), ())
        self.assertIsNone(way_between([], [(1, 1)]))

    def test_fault(self):
        row, other = [PLAIN_3, TURN_2], [TURN_2, TURN_3]
        self.assertIsNone(way_fault(row, other, (0,)))
        self.assertIsNone(way_fault(row, other, [0, 0, 0]))
        self.assertEqual(way_fault(row, other, None), "missing")
        self.assertEqual(way_fault(row, row, None), "missing")
        self.assertIsNone(way_fault(row, [(1, 1), TURN_3], None))
        for thing in no_rows()[1:] + [(True,), (0, 1.0), ((0,),), (9, None), ["0"]]:
            self.assertEqual(way_fault(row, other, thing), "places")
        for thing in ((1,), (-1,), (0, 0, 2), (10 ** 9,)):
            self.assertEqual(way_fault(row, other, thing), "exchange")
        self.assertEqual(way_fault([TURN_2, TURN_2], [TURN_2, TURN_2], (0,)), "exchange")
        self.assertEqual(way_fault(row, other, ()), "end")
        self.assertEqual(way_fault(row, other, (0, 0)), "end")
        self.assertEqual(way_fault(row, [(1, 1), TURN_3], (0,)), "end")
        self.assertIsNone(way_fault([], [], ()))
        self.assertEqual(way_fault([], [], (0,)), "exchange")


if __name__ == "__main__":
    unittest.main()
