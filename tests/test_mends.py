"""Points 10.6 to 10.8: choices of changes that mend a plan or spoil it."""

import time
import unittest
from itertools import combinations

from hushedwires.errors import BadChange, BadWish, NotGranted
from hushedwires.limits import Limits
from hushedwires.lines import Line
from hushedwires.mends import Mends, Spoiler, find_mends, find_spoilers, mends_fault
from hushedwires.plans import Plan
from hushedwires.wishes import first_broken
from tests.reckon import WRONG_WHOLES, Case, all_words, no_rows, random_word, seeded
from tests.test_changes import WRONG_CHANGES, random_change, right_plan
from tests.test_wishes import random_wish, wrong_wishes

EVEN = Line.even(4)
PLAIN = Plan(EVEN, [(1, 1, 1, 1)])
POOL = [("cross", 0, 1), ("cross", 0, 2), ("cross", 0, 3)]
LEVEL = [("hushed", 0, 1)]


def all_choices(many):
    return [choice for length in range(many + 1) for choice in combinations(range(many), length)]


def right_losses(plan, pool, wishes):
    """For each choice in order the index of the broken wish, -1 without a plan, None if it is good."""
    losses = {}
    for choice in all_choices(len(pool)):
        behind = right_plan(plan, [pool[index] for index in choice])
        broken = None if behind is None else first_broken(behind, wishes)
        losses[choice] = -1 if behind is None else None if broken is None else broken.index
    return losses


def parts(choice):
    return [part for length in range(len(choice)) for part in combinations(choice, length)]


class MendsTest(Case):
    def check(self, plan, pool, wishes):
        losses = right_losses(plan, pool, wishes)
        good = [choice for choice in losses if losses[choice] is None]
        least = tuple(choice for choice in good if not any(part in good for part in parts(choice)))
        told = find_mends(plan, pool, wishes)
        self.assertIs(type(told), Mends)
        self.assertEqual(told.least, least)
        self.assertEqual(told.losses, tuple((choice, loss) for choice, loss in losses.items() if loss is not None))
        self.assertEqual(told.needed, tuple(index for index in range(len(pool))
                                            if least and all(index in choice for choice in least)))
        self.assertIsNone(mends_fault(plan, pool, wishes, told))
        if losses[()] is None:
            spoilers = tuple(Spoiler(choice, loss) for choice, loss in losses.items()
                             if loss is not None and all(part in good for part in parts(choice)))
            self.assertEqual(find_spoilers(plan, pool, wishes), spoilers)
            self.assertEqual(told.least, ((),))
            return told, spoilers
        self.refuses(NotGranted(losses[()]), find_spoilers, plan, pool, wishes)
        return told, ()

    def test_example(self):
        told, _ = self.check(PLAIN, POOL, LEVEL)
        self.assertEqual(told.least, ((1,), (0, 2)))
        self.assertEqual(told.losses, (((), 0), ((0,), 0), ((2,), 0), ((0, 1), 0), ((1, 2), 0)))
        self.assertEqual(told.needed, ())

    def test_drawn_pools(self):
        source = seeded(130)
        needed, spoilt, without, least = 0, 0, 0, set()
        for _ in range(300):
            line = Line.even(source.randint(2, 5))
            words = all_words(len(line))
            plan = Plan(line, [source.choice(words) for _ in range(source.choice((1, 1, 2, 3, 6, 7)))])
            pool = [random_change(source, plan) for _ in range(source.randint(1, 5))]
            wishes = [random_wish(source, line) for _ in range(source.choice((1, 1, 2, 3)))]
            told, spoilers = self.check(plan, source.choice((list, tuple))(pool), wishes)
            needed += told.needed != ()
            spoilt += spoilers != ()
            without += any(loss == -1 for _, loss in told.losses)
            least.add(len(told.least))
        self.assertGreater(min(needed, spoilt, without), 10)
        self.assertGreaterEqual(len(least), 4)

    def test_edges(self):
        # nothing is good; the empty choice alone is good; no plan is left
        self.assertEqual(find_mends(PLAIN, POOL, [("pairs", 2)]).least, ())
        self.assertEqual(find_mends(PLAIN, POOL, [("pairs", 2)]).needed, ())
        self.assertEqual(find_mends(PLAIN, [("strike", 0)], [("pairs", 1)]), Mends(((),), (((0,), -1),)))
        self.assertEqual(find_spoilers(PLAIN, [("strike", 0)] * 2, [("pairs", 1)]), (Spoiler((0,), -1), Spoiler((1,), -1)))
        self.assertEqual(find_spoilers(PLAIN, POOL, [("crossings", 1)]),
                         (Spoiler((0, 1), 0), Spoiler((0, 2), 0), Spoiler((1, 2), 0)))
        self.assertEqual(find_spoilers(PLAIN, POOL, [("pairs", 1), ("crossings", 3)]), ())
        self.assertEqual(find_mends(PLAIN, [POOL[0], POOL[1]], [("crossings", 0)]).needed, ())
        self.assertEqual(find_mends(PLAIN, [("add", (1, 1, -1, -1)), POOL[1]], [("pairs", 2), ("all hushed", 1)]),
                         Mends(((0, 1),), (((), 0), ((0,), 1), ((1,), 0))))
        self.assertEqual(find_mends(PLAIN, [("add", (1, 1, -1, -1)), POOL[1]], [("pairs", 2)]).needed, (0,))

    def test_longest(self):
        source = seeded(131)
        start = time.monotonic()
        line = Line.even(24)
        plan = Plan(line, [random_word(source, 24) for _ in range(7)])
        pool = [("cross", pair, 3 * pair + 2) for pair in range(5)]
        limits = Limits.alike(24, (1, 1), (1, 1))
        told = find_mends(plan, pool, [("at most", pair, limits, (24, 1)) for pair in range(4)] + [("all round",)])
        self.assertEqual({index for _, index in told.losses}, {4})
        self.assertLess(time.monotonic() - start, 60)

    def test_refuses(self):
        good = ("strike", 0)
        calls = [(find_mends, []), (find_spoilers, []), (mends_fault, [None])]
        for call, more in calls:
            for thing in no_rows() + [[], (), [good] * 6]:
                self.refuses(BadChange(0, "pool"), call, PLAIN, thing, None, *more)
            for thing in no_rows() + WRONG_CHANGES:
                self.refuses(BadChange(1, "change"), call, PLAIN, [good, thing, None], None, *more)
            for thing in WRONG_WHOLES + [-1, 1]:
                self.refuses(BadChange(1, "pair"), call, PLAIN, [good, ("strike", thing)], None, *more)
            self.refuses(BadChange(0, "pole"), call, PLAIN, [("cross", 0, 4)], None, *more)
            self.refuses(BadChange(0, "word"), call, PLAIN, [("add", (1, 1))], None, *more)
            for thing in no_rows() + [[], [("pairs", 1)] * 6]:
                self.refuses(BadWish(0), call, PLAIN, [good], thing, *more)
            for thing in wrong_wishes()[::7]:
                self.refuses(BadWish(1), call, PLAIN, [good], [("pairs", 2), thing], *more)
        self.refuses(NotGranted(1), find_spoilers, PLAIN, POOL, [("pairs", 1), ("hushed", 0, 1), ("pairs", 7)])


class FaultTest(Case):
    right = find_mends(PLAIN, POOL, LEVEL)

    def fault(self, told):
        return mends_fault(PLAIN, POOL, LEVEL, told)

    def test_kind(self):
        for thing in (None, (self.right.least, self.right.losses), 5, Spoiler((1,), 0)):
            self.assertEqual(self.fault(thing), "kind")

    def test_least(self):
        for thing in (None, 5, list(self.right.least), ((1,),), ((0, 2), (1,)), ((1,), [0, 2]), ((1,), (2, 0)),
                      ((1,), (0, 2), (0, 1, 2)), ((True,), (0, 2)), ((1.0,), (0, 2)), ((1,), (False, 2)), (1, (0, 2))):
            self.assertEqual(self.fault(Mends(thing, None)), "least")

    def test_losses(self):
        losses = self.right.losses
        for thing in (None, 5, list(losses), losses[:-1], losses[::-1], losses + (((1,), 0),), losses[:-1] + (((1, 2), 1),),
                      losses[:-1] + (((1, 2), False),), losses[:-1] + ([(1, 2), 0],), losses[:-1] + (((1, 2), 0, 0),)):
            self.assertEqual(self.fault(Mends(self.right.least, thing)), "losses")
        self.assertIsNone(self.fault(Mends(((1,), (0, 2)), losses)))


class ResultsTest(Case):
    def test_results(self):
        self.assertEqual(vars(Mends(least=1, losses=2)), {"least": 1, "losses": 2})
        self.assertEqual(vars(Spoiler(choice=1, index=2)), {"choice": 1, "index": 2})
        self.assertEqual(Mends(((0, 1, 2), (2, 0)), 5).needed, (0, 2))
        self.assertEqual(Mends((), 5).needed, ())
        self.assertIsInstance(Mends.needed, property)
        for one, other in ((Mends(1, 2), Mends(1, 3)), (Mends(1, 2), Mends(3, 2)), (Spoiler(1, 2), Spoiler(1, 3)),
                           (Spoiler(1, 2), Spoiler(3, 2)), (Mends(1, 2), Spoiler(1, 2)), (Spoiler(1, 2), Mends(1, 2))):
            self.assertNotEqual(one, other)


if __name__ == "__main__":
    unittest.main()
