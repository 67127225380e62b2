"""Point 6.9: chains."""

import unittest
from math import comb

from hushedwires.chains import Chain
from hushedwires.doubling import binomial_noises
from hushedwires.errors import BadChain, BadCount, NoSection, TooMany
from hushedwires.linking import nest_links
from tests.reckon import WRONG_WHOLES, Case, no_rows, random_word, ratio, ratios, seeded
from tests.test_folding import nested

TURN, ENDS = (1, -1), (1, -1, -1, 1)
THUE_16 = tuple((-1) ** bin(section).count("1") for section in range(16))


def nest(links):
    word = (1,)
    for link in links:
        word = nested(word, link)
    return word


def order_and_noise(word):
    """The order on the even line and the noise there, for words of any length."""
    power = 0
    while True:
        noise = sum(sign * section ** power for section, sign in enumerate(word))
        if noise:
            return power, noise
        power += 1


def random_links(source):
    links = []
    for _ in range(source.randint(1, 4)):
        word = source.choice((random_word(source, source.randint(1, 6)), TURN, ENDS, (1, -1, -1), (1,)))
        links.append(source.choice((word, list(word))))
    return links


class ChainTest(Case):
    def test_kept(self):
        told = [[1, -1], (1, 1, -1)]
        chain = Chain(told)
        told[0][1] = 1
        told.append(ENDS)
        self.assertEqual(chain.links, ((1, -1), (1, 1, -1)))
        self.assertEqual([type(thing) for thing in (chain.links,) + chain.links], [tuple] * 3)
        self.assertEqual(len(chain), 2)
        self.assertEqual(list(chain), [(1, -1), (1, 1, -1)])
        self.assertEqual(len(Chain(((1,),) * 8)), 8)

    def test_equal(self):
        self.assertEqual(Chain([TURN]), Chain(([1, -1],)))
        self.assertNotEqual(Chain([TURN, ENDS]), Chain([ENDS, TURN]))
        self.assertNotEqual(Chain([TURN, TURN]), Chain([ENDS]))
        self.assertFalse(Chain([TURN]) == (TURN,))

    def test_refuses(self):
        for thing in no_rows() + [[], (), [(1,)] * 9, [None] * 9]:
            self.refuses(BadChain(0, "many"), Chain, thing)
        for thing in no_rows() + [(), (-1, 1), (1, 0), (1, True), (1,) * 25]:
            self.refuses(BadChain(0, "word"), Chain, [thing])
            self.refuses(BadChain(2, "word"), Chain, [(1,), (1,) * 4, thing, thing])

    def test_against_words(self):
        source = seeded(69)
        orders = []
        for _ in range(300):
            links = random_links(source)
            chain, word = Chain(links), nest(links)
            self.check(chain, word)
            for section in range(len(word)):
                self.assertEqual(chain.sign_at(section), word[section])
            sums = [sum(word[:many]) for many in range(len(word) + 1)]
            self.assertEqual([chain.running_at(many) for many in range(len(word) + 1)], sums)
            self.assertEqual(chain.widest_sums(), (min(sums), max(sums)))
            many = source.randint(1, 24)
            told = chain.noises_to(many)
            self.assertRatios(told, many)
            self.assertEqual(told, tuple(ratio(sum(sign * comb(k, j) for k, sign in enumerate(word)))
                                         for j in range(many)))
            if len(word) <= 24:
                self.assertEqual(chain.written(), word)
                self.assertEqual(chain.noises_to(5), binomial_noises(word, 5))
            else:
                self.refuses(TooMany(24), chain.written)
            orders.append(chain.chain_order)
        for order in range(6):
            self.assertIn(order, orders)

    def check(self, chain, word):
        self.assertEqual(chain.sections, len(word))
        self.assertEqual(chain.crossing_count, sum(one != other for one, other in zip(word, word[1:])))
        order, noise = order_and_noise(word)
        self.assertEqual(chain.chain_order, order)
        self.assertEqual(chain.chain_noise, ratio(noise))
        self.assertEqual([type(one) for one in (chain.sections, chain.crossing_count, chain.chain_order)], [int] * 3)

    def test_longer_words(self):
        source = seeded(70)
        for _ in range(10):
            links = [random_word(source, source.randint(2, 24)) for _ in range(3)]
            chain, word = Chain(links), nest(links)
            self.check(chain, word)
            running, sums = 0, [0]
            for sign in word:
                running += sign
                sums.append(running)
            self.assertEqual(chain.widest_sums(), (min(sums), max(sums)))
            for many in source.sample(range(len(sums)), min(30, len(sums))):
                self.assertEqual(chain.running_at(many), sums[many])

    def test_not_prime(self):
        self.assertEqual(Chain([ENDS, (1,), ENDS]).written(), THUE_16)
        self.assertEqual(Chain([TURN, (1, 1, 1)]).written(), nest_links([TURN, (1, 1, 1)]))
        self.assertEqual(Chain([(1,)]).written(), (1,))
        self.assertEqual(Chain([(1,)]).widest_sums(), (0, 1))

    def test_longest(self):
        source = seeded(71)
        links = [random_word(source, 24) for _ in range(8)]
        chain = Chain(links)
        self.assertEqual(chain.sections, 24 ** 8)
        total = 1
        for link in links:
            total *= sum(link)
        self.assertEqual(chain.running_at(24 ** 8), total)
        self.assertEqual(chain.noises_to(1), (ratio(total),))
        for _ in range(50):
            section = source.randint(0, 24 ** 8 - 1)
            sign, rest = 1, section
            for link in reversed(links):
                sign, rest = sign * link[rest % 24], rest // 24
            self.assertEqual(chain.sign_at(section), sign)
            self.assertEqual(chain.running_at(section + 1) - chain.running_at(section), sign)
            least, greatest = chain.widest_sums()
            self.assertTrue(least <= chain.running_at(section) <= greatest)
        alike = Chain([(1, -1) * 12] * 8)
        self.assertEqual(alike.crossing_count, sum(alike.sign_at(k) != alike.sign_at(k - 1) for k in range(1, 576))
                         + (24 ** 6 - 1) * sum(alike.sign_at(k) != alike.sign_at(k - 1) for k in range(1, 576))
                         + sum(alike.sign_at(576 * k) != alike.sign_at(576 * k - 1) for k in range(1, 576)) * 24 ** 4
                         + sum(alike.sign_at(576 ** 2 * k) != alike.sign_at(576 ** 2 * k - 1) for k in range(1, 576))
                         * 24 ** 2
                         + sum(alike.sign_at(576 ** 3 * k) != alike.sign_at(576 ** 3 * k - 1) for k in range(1, 576)))
        high = Chain([THUE_16] * 8)
        self.assertEqual(high.chain_order, 32)
        self.assertEqual(high.sections, 2 ** 32)
        self.assertEqual(high.noises_to(24), ratios(*([0] * 24)))
        self.assertEqual(high.noises_to(24)[0], ratio(0))
        # each doubling gives the order of one more, and the sizes of its step as a factor
        noise = 1
        for number in range(32):
            noise *= (number + 1) * -2 ** number
        self.assertEqual(high.chain_noise, ratio(noise))

    def test_orders_from_links(self):
        source = seeded(72)
        for _ in range(50):
            links = [source.choice((TURN, ENDS, (1, 1, -1), (1, 1, -1, -1))) for _ in range(8)]
            chain = Chain(links)
            self.assertEqual(chain.chain_order, sum({TURN: 1, ENDS: 2, (1, 1, -1, -1): 1}.get(link, 0) for link in links))
            if chain.chain_order < 24:
                told = chain.noises_to(chain.chain_order + 1)
                self.assertEqual(told[:-1], ratios(*([0] * chain.chain_order)))
                factorial = 1
                for number in range(chain.chain_order):
                    factorial *= number + 1
                self.assertEqual(chain.chain_noise, ratio(told[-1][0] * factorial))

    def test_nest_around(self):
        told = Chain([TURN, ENDS]).nest_around(Chain([(1, 1, -1)]))
        self.assertEqual(told, Chain([TURN, ENDS, (1, 1, -1)]))
        self.assertEqual(told.written(), nest([TURN, ENDS, (1, 1, -1)]))
        four = Chain([TURN] * 4)
        self.assertEqual(len(four.nest_around(four)), 8)
        self.refuses(BadChain(0, "many"), four.nest_around, Chain([TURN] * 5))

    def test_methods_refuse(self):
        chain = Chain([TURN, ENDS])
        for thing in WRONG_WHOLES + [-1, 8, 9]:
            self.refuses(NoSection(thing), chain.sign_at, thing)
        for thing in WRONG_WHOLES + [-1, 9]:
            self.refuses(NoSection(thing), chain.running_at, thing)
        for thing in WRONG_WHOLES + [0, 25]:
            self.refuses(BadCount(), chain.noises_to, thing)
        self.refuses(TooMany(24), Chain([(1,) * 5, (1,) * 5]).written)
        self.assertEqual(len(Chain([(1,) * 4, (1,) * 6]).written()), 24)


if __name__ == "__main__":
    unittest.main()
