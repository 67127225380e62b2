"""Points 10.9 and 10.10: a bench against a list of its deeds, and trials."""

import unittest

from hushedwires.bench import Bench
from hushedwires.errors import BadChange, BadWish, NothingDone
from hushedwires.lines import Line
from hushedwires.plans import Plan
from hushedwires.wishes import grants_all
from tests.reckon import Case, no_rows, random_word, seeded
from tests.test_changes import WRONG_CHANGES, random_change, right_plan
from tests.test_wishes import random_wish

EVEN = Line.even(4)
PLAN = Plan(EVEN, [(1, 1, 1, 1), (1, -1, -1, 1)])
CROSS, ADD, STRIKE = ("cross", 0, 2), ("add", (1, -1, 1, -1)), ("strike", 1)


def state(bench):
    return bench.plan, bench.log, len(bench), tuple(bench)


class Mirror:
    """The tests' own bench: all deeds that stand, made anew from the first plan."""

    def __init__(self, plan):
        self.first = plan
        self.deeds = []

    def plan(self, deeds=None):
        plan = self.first
        for deed in self.deeds if deeds is None else deeds:
            plan = right_plan(plan, [deed])
        return plan

    def can(self, deed):
        return right_plan(self.plan(), [deed]) is not None


class BenchTest(Case):
    def assertState(self, bench, plan, log):
        self.assertEqual(state(bench), (plan, tuple(log), len(log), tuple(log)))
        self.assertIs(type(bench.log), tuple)

    def test_deeds(self):
        bench = Bench(PLAN)
        self.assertState(bench, PLAN, [])
        crossed = Plan(EVEN, [(1, 1, -1, -1), (1, -1, -1, 1)])
        self.assertEqual(bench.make(list(CROSS)), crossed)
        self.assertState(bench, crossed, [CROSS])
        longer = crossed.with_word((1, -1, 1, -1))
        self.assertEqual(bench.make(["add", [1, -1, 1, -1]]), longer)
        # numbers are those of the plan now
        self.assertEqual(bench.make(("strike", 2)), crossed)
        self.assertState(bench, crossed, [CROSS, ADD, ("strike", 2)])
        self.assertEqual(bench.take_back(), ("strike", 2))
        self.assertState(bench, longer, [CROSS, ADD])
        self.assertEqual([bench.take_back(), bench.take_back()], [ADD, CROSS])
        self.assertState(bench, PLAN, [])
        self.refuses(NothingDone(), bench.take_back)
        self.assertState(bench, PLAN, [])

    def test_make_all(self):
        bench = Bench(PLAN)
        self.assertEqual(bench.make_all(), PLAN)
        self.assertState(bench, PLAN, [])
        told = bench.make_all(STRIKE, CROSS, list(ADD), ("strike", 0))
        self.assertEqual(told, Plan(EVEN, [(1, -1, 1, -1)]))
        self.assertState(bench, told, [STRIKE, CROSS, ADD, ("strike", 0)])
        self.assertEqual(bench.take_back(), ("strike", 0))
        self.assertEqual(bench.plan, Plan(EVEN, [(1, 1, -1, -1), (1, -1, 1, -1)]))

    def test_drawn_deeds(self):
        source = seeded(132)
        refused = 0
        for _ in range(60):
            line = Line.even(source.randint(1, 6))
            plan = Plan(line, [random_word(source, len(line)) for _ in range(source.choice((1, 2, 6, 7)))])
            bench, mirror = Bench(plan), Mirror(plan)
            for _ in range(30):
                refused += self.draw_deed(source, bench, mirror)
                self.assertState(bench, mirror.plan(), mirror.deeds)
                wishes = [random_wish(source, line) for _ in range(source.randint(1, 3))]
                self.assertIs(bench.grants(*wishes), grants_all(mirror.plan(), wishes))
        self.assertGreater(refused, 50)

    def draw_deed(self, source, bench, mirror):
        kind = source.random()
        if kind < 0.3:
            if mirror.deeds:
                self.assertEqual(bench.take_back(), mirror.deeds.pop())
                return 0
            self.refuses(NothingDone(), bench.take_back)
            return 1
        deeds, right = [], list(mirror.deeds)
        for index in range(source.randint(0, 4)):
            deed = random_change(source, mirror.plan(right))
            behind = right_plan(mirror.plan(right), [deed])
            deeds.append(deed)
            if behind is None:
                self.refuses(BadChange(index, "plan"), bench.make_all, *deeds, None)
                return 1
            right.append(deed)
        if len(deeds) == 1:
            self.assertEqual(bench.make(deeds[0]), mirror.plan(right))
        else:
            self.assertEqual(bench.make_all(*deeds), mirror.plan(right))
        mirror.deeds = right
        return 0

    def test_refused_changes_nothing(self):
        bench = Bench(PLAN)
        bench.make(CROSS)
        before = state(bench)
        wrong = [(one, "change") for one in no_rows() + WRONG_CHANGES]
        wrong += [(("strike", 9), "pair"), (("cross", 0, 4), "pole"), (("add", (1, 1)), "word")]
        for thing, what in wrong:
            self.refuses(BadChange(0, what), bench.make, thing)
            self.refuses(BadChange(2, what), bench.make_all, ADD, CROSS, thing, None)
            self.assertEqual(state(bench), before)
        self.refuses(BadChange(1, "plan"), bench.make_all, ("strike", 0), ("strike", 0))
        self.refuses(BadChange(1, "pair"), bench.make_all, ("strike", 1), ("strike", 1))
        self.refuses(BadChange(5, "plan"), bench.make_all, *[ADD] * 6)
        self.assertEqual(state(bench), before)
        lone, full = Bench(Plan(EVEN, [(1, 1, 1, 1)])), Bench(Plan(EVEN, [(1, 1, 1, 1)] * 7))
        self.refuses(BadChange(0, "plan"), lone.make, ("strike", 0))
        self.refuses(BadChange(0, "plan"), full.make, ADD)
        for thing in [(), (None,), (("pairs", 0),), (("pairs", 1),) * 6]:
            self.refuses(BadWish(0), bench.grants, *thing)
        self.refuses(BadWish(1), bench.grants, ("pairs", 7), ("pairs",))
        self.assertEqual(state(bench), before)
        self.assertEqual(bench.take_back(), CROSS)

    def test_apart_from_plans(self):
        plan = Plan(EVEN, [(1, 1, 1, 1), (1, -1, -1, 1)])
        bench = Bench(plan)
        self.assertIsNot(bench.plan, plan)
        told = bench.make(CROSS)
        kept = Plan(EVEN, told.words)
        plan.words = told.words = ()
        self.assertEqual(bench.plan, kept)
        bench.make(ADD)
        self.assertEqual(told.words, ())
        self.assertEqual(bench.take_back(), ADD)
        self.assertEqual(bench.plan, kept)
        # changes that were passed or returned stay apart, too
        word = [1, 1, -1, 1]
        bench.make(["add", word])
        word[1] = -1
        self.assertEqual(bench.log[-1], ("add", (1, 1, -1, 1)))
        self.assertEqual(bench.plan.words[-1], (1, 1, -1, 1))

    def test_iteration(self):
        bench = Bench(PLAN)
        bench.make_all(CROSS, ADD, STRIKE)
        seen = []
        for change in bench:
            seen.append(change)
            bench.take_back()
        self.assertEqual(seen, [CROSS, ADD, STRIKE])
        self.assertEqual(len(bench), 0)


class TrialTest(Case):
    def setUp(self):
        self.bench = Bench(PLAN)
        self.bench.make_all(CROSS, ADD)
        self.before = state(self.bench)

    def test_block(self):
        with self.bench.trial() as held:
            self.assertIs(held, self.bench)
            held.make(STRIKE)
            self.assertEqual(len(self.bench), 3)
            held.take_back()
            held.take_back()
            held.take_back()
            self.assertEqual(state(held)[0], PLAN)
            held.make_all(STRIKE, ("cross", 0, 1))
        self.assertEqual(state(self.bench), self.before)
        # what was done before the trial can still be taken back
        self.assertEqual([self.bench.take_back(), self.bench.take_back()], [ADD, CROSS])
        self.assertEqual(self.bench.plan, PLAN)

    def test_begins_with_its_block(self):
        trial = self.bench.trial()
        self.bench.make(STRIKE)
        before = state(self.bench)
        with trial:
            self.bench.take_back()
        self.assertEqual(state(self.bench), before)

    def test_raised(self):
        for error in (KeyError("x"), KeyboardInterrupt()):
            with self.assertRaises(type(error)) as caught:
                with self.bench.trial() as held:
                    held.make(STRIKE)
                    raise error
            self.assertIs(caught.exception, error)
            self.assertEqual(state(self.bench), self.before)
        with self.assertRaises(BadChange):
            with self.bench.trial() as held:
                held.make(STRIKE)
                held.make(("strike", 9))
        self.assertEqual(state(self.bench), self.before)

    def test_left_early(self):
        def work():
            with self.bench.trial() as held:
                return held.make(STRIKE)
        self.assertEqual(work(), Plan(EVEN, [(1, 1, -1, -1), (1, -1, 1, -1)]))
        for _ in range(2):
            with self.bench.trial() as held:
                held.take_back()
                continue
        self.assertEqual(state(self.bench), self.before)

    def test_nested(self):
        with self.bench.trial() as outer:
            outer.make(STRIKE)
            between = state(outer)
            with outer.trial() as inner:
                inner.take_back()
                inner.take_back()
                with self.assertRaises(NothingDone):
                    with inner.trial() as third:
                        third.take_back()
                        third.take_back()
                self.assertEqual(inner.log, (CROSS,))
            self.assertEqual(state(outer), between)
            self.assertEqual(outer.take_back(), STRIKE)
        self.assertEqual(state(self.bench), self.before)

    def test_tried(self):
        told = object()

        def work(bench):
            self.assertIs(bench, self.bench)
            bench.make(STRIKE)
            return told, bench.plan
        result = self.bench.tried(work)
        self.assertIs(result[0], told)
        self.assertEqual(len(result[1]), 2)
        self.assertEqual(state(self.bench), self.before)
        error = ValueError("x")

        def failing(bench):
            bench.take_back()
            raise error
        with self.assertRaises(ValueError) as caught:
            self.bench.tried(failing)
        self.assertIs(caught.exception, error)
        self.assertEqual(state(self.bench), self.before)
        self.assertIsNone(self.bench.tried(lambda bench: None))
        self.assertIs(self.bench.tried(lambda bench: bench.tried(lambda held: held)), self.bench)
        self.refuses(NothingDone(), self.bench.tried, lambda bench: [bench.take_back() for _ in range(3)])
        self.assertEqual(state(self.bench), self.before)


if __name__ == "__main__":
    unittest.main()
