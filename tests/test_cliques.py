"""The helper for lots of places of which each two are friends, behind points 5.3 and 5.4."""

import unittest
from itertools import combinations

from hushedwires.cliques import count_cliques, each_clique, each_full_clique, first_in, holds_clique, many_in
from tests.reckon import Case, seeded


def random_friends(source):
    count = source.randint(1, 9)
    share = source.choice((0.2, 0.5, 0.8))
    friends = [0] * count
    for one, other in combinations(range(count), 2):
        if source.random() < share:
            friends[one] |= 1 << other
            friends[other] |= 1 << one
    if source.random() < 0.3:
        # a twin, who has the same friends
        friends = [row | ((row & 1) << count) for row in friends] + [friends[0]]
    return friends


def right_cliques(friends, lot, many):
    places = [place for place in range(len(friends)) if lot >> place & 1]
    return [chosen for chosen in combinations(places, many)
            if all(friends[one] >> other & 1 for one, other in combinations(chosen, 2))]


class CliquesTest(Case):
    def test_lots(self):
        self.assertEqual([many_in(lot) for lot in (0, 1, 6, 2 ** 100 + 1)], [0, 1, 2, 2])
        self.assertEqual([first_in(lot) for lot in (1, 6, 2 ** 100, 2 ** 100 + 8)], [0, 1, 100, 3])

    def test_random_friends(self):
        source = seeded(1)
        for _ in range(400):
            friends = random_friends(source)
            everyone = (1 << len(friends)) - 1
            lot = source.choice((everyone, source.randint(0, everyone)))
            for many in range(1, 6):
                right = right_cliques(friends, lot, many)
                self.assertIs(holds_clique(friends, lot, many), bool(right))
                self.assertEqual(list(each_clique(friends, (), lot, many)), right)
                self.assertEqual(count_cliques(friends, lot, many), len(right))
            self.assertIs(holds_clique(friends, lot, 0), True)

    def test_full_cliques(self):
        source = seeded(2)
        for _ in range(200):
            friends = random_friends(source)
            everyone = (1 << len(friends)) - 1
            most = source.randint(1, 5)
            every = [set(chosen) for many in range(1, most + 1) for chosen in right_cliques(friends, everyone, many)]
            right = sorted(tuple(sorted(chosen)) for chosen in every
                           if len(chosen) == most or not any(chosen < other for other in every))
            self.assertEqual(list(each_full_clique(friends, (), everyone, most)), right)


if __name__ == "__main__":
    unittest.main()
