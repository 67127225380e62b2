"""Points 10.1 and 10.2: changes of plans, and the plans behind them."""

import unittest

from hushedwires.changes import check_changes, plan_after
from hushedwires.errors import BadChange
from hushedwires.lines import Line
from hushedwires.plans import Plan
from tests.reckon import WRONG_WHOLES, Case, all_words, crossings, no_rows, random_line, random_word, seeded

EVEN = Line.even(4)
PLAN = Plan(EVEN, [(1, 1, 1, 1), (1, -1, -1, 1), (1, 1, -1, -1)])
WRONG_CHANGES = [[], (), ("cross",), ("cross", 0), ("cross", 0, 1, 1), ("add",), ("add", (1, 1, 1, 1), 0), ("strike",),
                 ("strike", 0, 1), ("Cross", 0, 1), ("swap", 0), (0, 1, 2), (None, 0), (["add"], (1, 1, 1, 1)),
                 ({}, 0), (("cross",), 0, 1), ("", 0), (b"strike", 0), ("cross", "strike")]


def right_plan(plan, changes):
    """The plan behind changes by sets of crossings."""
    poles = [set(crossings(word)) for word in plan.words]
    for change in changes:
        if change[0] == "cross":
            poles[change[1]] ^= {change[2]}
    struck = {change[1] for change in changes if change[0] == "strike"}
    words = []
    for pair, crossed in enumerate(poles):
        signs = [1]
        for pole in range(1, len(plan.line)):
            signs.append(-signs[-1] if pole in crossed else signs[-1])
        if pair not in struck:
            words.append(tuple(signs))
    words += [tuple(change[1]) for change in changes if change[0] == "add"]
    return Plan(plan.line, words) if 1 <= len(words) <= 7 else None


def random_change(source, plan):
    count = len(plan.line)
    if count > 1 and source.random() < 0.5:
        return ("cross", source.randrange(len(plan)), source.randint(1, count - 1))
    if source.random() < 0.5:
        return ("add", random_word(source, count))
    return ("strike", source.randrange(len(plan)))


class CheckTest(Case):
    def test_kept(self):
        given = [["cross", 2, 3], ("add", [1, -1, 1, -1]), ["strike", 0], ("add", (1, 1, 1, 1)), ["cross", 2, 3]]
        right = (("cross", 2, 3), ("add", (1, -1, 1, -1)), ("strike", 0), ("add", (1, 1, 1, 1)), ("cross", 2, 3))
        for form in (list, tuple):
            self.assertEqual(check_changes(PLAN, form(given)), right)
            self.assertEqual(check_changes(PLAN, form([])), ())
        told = check_changes(PLAN, given)
        given[1][1].append(1)
        self.assertEqual(told, right)

    def test_refuses(self):
        good = ("strike", 0)
        for call in (check_changes, plan_after):
            for thing in no_rows() + [[good] * 6]:
                self.refuses(BadChange(0, "many"), call, PLAN, thing)
            for thing in no_rows() + WRONG_CHANGES:
                self.refuses(BadChange(0, "change"), call, PLAN, [thing, None])
                self.refuses(BadChange(2, "change"), call, PLAN, [good, good, thing, None])
            for thing in WRONG_WHOLES + [-1, 3]:
                self.refuses(BadChange(1, "pair"), call, PLAN, [good, ("cross", thing, 0), None])
                self.refuses(BadChange(1, "pair"), call, PLAN, [good, ["strike", thing]])
            for thing in WRONG_WHOLES + [0, 4, -1]:
                self.refuses(BadChange(1, "pole"), call, PLAN, [good, ("cross", 2, thing), None])
            for thing in no_rows() + [[], (1, 1, 1), (1,) * 5, (-1, 1, 1, 1), (1, 0, 1, 1), (1, True, 1, 1)]:
                self.refuses(BadChange(1, "word"), call, PLAN, [good, ("add", thing), ("strike", 9)])
        self.refuses(BadChange(0, "pole"), check_changes, Plan(Line.even(1), [(1,)]), [("cross", 0, 1)])


class AfterTest(Case):
    def test_examples(self):
        self.assertEqual(plan_after(PLAN, []), PLAN)
        self.assertEqual(plan_after(PLAN, [("cross", 0, 2)]).words[0], (1, 1, -1, -1))
        # twice is as before, thrice is once
        self.assertEqual(plan_after(PLAN, [("cross", 0, 2)] * 2), PLAN)
        self.assertEqual(plan_after(PLAN, [("cross", 0, 2)] * 3), plan_after(PLAN, [("cross", 0, 2)]))
        # struck twice is once, crossed or not; numbers are those of the plan passed
        self.assertEqual(plan_after(PLAN, [("strike", 0), ("strike", 0)]).words, PLAN.words[1:])
        self.assertEqual(plan_after(PLAN, [("strike", 0), ("cross", 0, 1), ("cross", 2, 2)]).words,
                         (PLAN.words[1], (1, 1, 1, 1)))
        # added ones come last, in their order, and may be equal to others
        self.assertEqual(plan_after(PLAN, [("add", [1, 1, 1, -1]), ("strike", 1), ("add", PLAN.words[0])]).words,
                         (PLAN.words[0], PLAN.words[2], (1, 1, 1, -1), PLAN.words[0]))

    def test_edges(self):
        lone = Plan(EVEN, [(1, 1, 1, 1)])
        self.assertIsNone(plan_after(lone, [("strike", 0)]))
        self.assertEqual(plan_after(lone, [("strike", 0), ("add", (1, -1, 1, -1))]), Plan(EVEN, [(1, -1, 1, -1)]))
        full = Plan(EVEN, [(1, 1, 1, 1)] * 7)
        self.assertIsNone(plan_after(full, [("add", (1, -1, 1, -1))]))
        self.assertEqual(len(plan_after(full, [("add", (1, -1, 1, -1)), ("strike", 3)])), 7)
        self.assertEqual(len(plan_after(Plan(EVEN, [(1, 1, 1, 1)] * 2), [("add", (1, 1, 1, 1))] * 5)), 7)
        self.assertIsNone(plan_after(PLAN, [("add", (1, 1, 1, 1))] * 5))

    def test_drawn_changes(self):
        source = seeded(125)
        seen = set()
        for _ in range(400):
            line = random_line(source, source.randint(1, 24))
            words = [random_word(source, len(line)) for _ in range(source.choice((1, 2, 3, 6, 7)))]
            plan = Plan(line, words)
            changes = [random_change(source, plan) for _ in range(source.randint(0, 5))]
            told = plan_after(plan, source.choice((list, tuple))(changes))
            self.assertEqual(told, right_plan(plan, changes))
            self.assertEqual(plan, Plan(line, words))
            seen.add(told is None)
            if told is not None:
                self.assertIsNot(told, plan)
        self.assertEqual(seen, {True, False})

    def test_all_words_by_crossings(self):
        for word in all_words(4):
            changes = [("cross", 0, pole) for pole in crossings(word)]
            self.assertEqual(plan_after(Plan(EVEN, [(1, 1, 1, 1)]), changes[::-1]).words, (word,))


if __name__ == "__main__":
    unittest.main()
