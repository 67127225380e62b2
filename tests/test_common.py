"""Points 0.1 to 0.10 where they hold for everything: what is passed in, what comes back, what is equal."""

import copy
import unittest
from types import GeneratorType

from hushedwires.armwords import arm_words, count_arm_words, lone_spot
from hushedwires.balances import Balance, Loud, balance_fault, balance_of, hushing_lengths
from hushedwires.bench import Bench
from hushedwires.bounds import pairs_bound, plan_bar, rank_of, right_blocks
from hushedwires.chains import Chain
from hushedwires.changes import check_changes, plan_after
from hushedwires.courses import Course, most_factor, noise_course
from hushedwires.doubling import binomial_noises, double_line, double_word, join_words, sum_rows
from hushedwires.extents import Extents, hushed_extents, order_at, plan_extents
from hushedwires.folding import fold_lengths, is_prime_word, unfold_word, unfoldings_of
from hushedwires.forms import form_at, form_fault, form_of, noise_at
from hushedwires.further import all_further, count_further, further_word, hums_for, is_full
from hushedwires.hums import binomial_hum, level_hum, mark_hum, noise_of, polynomial_hum, stretch_hum
from hushedwires.layers import Layers, check_hums, first_word, layers_fault, layers_of
from hushedwires.layouts import (
    Layout, check_legs, exchanged_layout, moves_of, spot_couples, still_layout, turning_layout)
from hushedwires.limits import (
    Clash, Limits, check_known, check_limits, hum_through, let_more, let_same, tighten, within_limits)
from hushedwires.lines import Line, check_hum, check_marks
from hushedwires.linetext import line_of, line_text
from hushedwires.linking import (
    all_links, check_links, exchange_links, links_of, nest_links, way_between, way_fault)
from hushedwires.listing import count_hushed, hushed_by_number, hushed_number, hushed_words, least_crossed
from hushedwires.loudest import Endless, Greatest, endless_fault, greatest_fault, greatest_noise
from hushedwires.louds import QuietExtents, Reached, greatest_upto, loud_from, quiet_extents
from hushedwires.mends import Mends, Spoiler, find_mends, find_spoilers, mends_fault
from hushedwires.mirrors import mirror_of, mirrored_words, mirrors_itself
from hushedwires.nearest import Nearest, nearest_hushed
from hushedwires.nesting import nest_hums, nest_lines, nest_plans, nest_spans, nest_words, weakest_order
from hushedwires.orders import hushing_poles, loud_fault, loud_polynomial, order_noise, order_of
from hushedwires.patterns import (
    Pattern, count_steady, least_pattern, product_pattern, repeat_pattern, steady_patterns, unlike_at)
from hushedwires.planlists import all_plans, count_plans, full_plans, most_pairs
from hushedwires.plans import Between, Outside, Plan, first_heard, plan_hushed
from hushedwires.primes import count_primes, prime_words
from hushedwires.quietest import Quiet, quietest_words
from hushedwires.ratios import greatest_of, least_of, sum_of
from hushedwires.roundabouts import Round, by_way, first_round, round_table, roundabout_of
from hushedwires.running import check_sums, never_louder, running_of, spare_parts, sums_cost
from hushedwires.sames import Apart, Made, holds_span, lean_hums, place_fault, place_hum, same_span
from hushedwires.shifts import (
    Fixed, Hushing, Least, hushing_fault, hushing_shifts, least_slack, slack_fault)
from hushedwires.slacks import ShiftRange, check_shifts, check_slacks, shifted_line, shifts_meeting, slack_range
from hushedwires.spans import (
    Heard, Span, check_span, degree_span, heard_by, hum_by_shares, is_hushed, noises_of, stretch_span)
from hushedwires.splits import Split, split_hum, unheard_of
from hushedwires.strengths import (
    CoupleHeard, GroupHeard, SpotHeard, StrengthRange, arm_heard, couple_noise, couple_sums, group_heard,
    heard_strengths, loudest_strengths, spot_noise, spot_sums)
from hushedwires.talks import (
    ReachHeard, TalkHeard, further_talk, least_talk, stand_sums, swap_word, talk_lots, talk_noise, talk_reaches)
from hushedwires.telling import Alike, Ask, Found, Stuck, best_tree, follow_tree, least_pools, told_apart
from hushedwires.ties import steps_noise, tied_noise
from hushedwires.turning import Turned, finer_line, finer_row, finer_span, turn_plan
from hushedwires.wishes import Broken, Lacking, check_wishes, first_broken, grants_all
from hushedwires.words import (
    backward_word, check_poles, check_signs, check_word, crossed_at, crossings_of, cut_word, each_word, number_of_word,
    opposite_of, product_of, turned_word, word_by_number, word_with)
from hushedwires.wordtext import hum_of, hum_text, word_of, word_text, words_of, words_text
from hushedwires.wrongs import (
    check_tests, lots_that_fit, read_tests, sure_right, sure_wrong, telling_hum, word_of_reading, wrong_lots, wrong_word)
from tests.reckon import Case, is_true_ratio

LINE = Line([(1, 1), (3, 2), (2, 1), (1, 1)], [(-1, 1), (0, 1), (1, 2), (3, 1)])
WORD, OTHER, THIRD = [1, -1, -1, 1], [1, 1, -1, -1], [1, -1, 1, -1]
HUM = [(1, 1), (-1, 2), (0, 1), (1, 1)]
SPAN = Span([[(1, 1), (1, 1), (1, 1), (1, 1)], [(0, 1), (1, 1), (2, 1), (3, 1)]])
LIMITS = Limits([(2, 1), None, (1, 1), (3, 1)], [(1, 1), (5, 2), None])
FREE = Limits([None] * 4, [(1, 1)] * 3)
KNOWN = [[0, (1, 1)], (2, (-1, 2))]
HALF_KNOWN = ((0, (1, 1)),)
SUMS = [(0, 1), (1, 1), (-1, 2), (0, 1), (0, 1)]
PLAN = Plan(LINE, [OTHER, THIRD])
EVEN = Line.even(4)
LEVEL = degree_span(EVEN, 1)
UPRIGHT = Plan(EVEN, [OTHER, THIRD])
HUMS = [HUM, [(1, 1)] * 4]
LINKS, EXCHANGED = [[1, 1, 1], [1, -1]], [[1, -1], [1, -1, 1]]
CHAIN = Chain([WORD, [1, 1, -1]])
PATTERN, SHORT = Pattern(WORD), Pattern([1, -1, -1])
GREATEST = greatest_noise(LINE, WORD, LIMITS)
ARM = Layout(3, [[0, 1], [0, 2], [1, 0], [2, 0]])
THREE = Plan(EVEN, [OTHER, THIRD, WORD])
ARM_OF_THREE = Layout(3, [[0, 1, 2], [0, 2, 1], [1, 0, 2], [2, 0, 1]])
STRENGTHS = [(1, 1), (-1, 2), (2, 1)]
SLACKS = [(1, 4), (1, 2), (1, 4)]
READINGS = [(1, 1), (1, 2)]
CHANGES = [["cross", 0, 1], ("add", [1, 1, 1, -1]), ["strike", 1]]
WISHES = [["all hushed", 1], ("at most", 0, LIMITS, (1, 1)), ["pairs", 1]]
BENCH = Bench(PLAN)

CALLS = [
    (sum_of, [HUM]), (least_of, [HUM]), (greatest_of, [HUM]),
    (Line, [list(LINE.lengths), list(LINE.marks)]), (LINE.cut_section, [1, (1, 2), (1, 4)]), (LINE.backward, []),
    (LINE.grown, [(2, 1)]), (LINE.shifted, [(2, 1)]), (LINE.joined_to, [LINE, (1, 1)]), (check_marks, [list(LINE.marks)]),
    (check_hum, [4, HUM]), (check_signs, [WORD]), (check_word, [LINE, WORD]), (turned_word, [[-1, 1]]),
    (opposite_of, [WORD]), (crossings_of, [WORD]), (check_poles, [9, [5, 3]]), (word_with, [9, [5, 3]]),
    (crossed_at, [WORD, 2]), (product_of, [WORD, OTHER]), (backward_word, [WORD]), (cut_word, [WORD, 1]),
    (word_by_number, [4, 3]), (number_of_word, [WORD]), (each_word, [3]), (line_text, [LINE]), (line_of, ["1:0 2:1"]),
    (word_text, [WORD]), (words_text, [[WORD, OTHER]]), (hum_text, [HUM]), (word_of, ["+-"]), (words_of, ["+-\n++"]),
    (hum_of, ["1 2"]), (noise_of, [LINE, WORD, HUM]), (level_hum, [LINE]), (mark_hum, [LINE, 2]), (stretch_hum, [4, 1, 2]),
    (polynomial_hum, [LINE, HUM]), (binomial_hum, [4, 1]), (Span, [[HUM, HUM]]), (check_span, [LINE, SPAN]),
    (degree_span, [LINE, 3]), (stretch_span, [4, [[0, 1], (1, 3)]]), (hum_by_shares, [SPAN, [(1, 1), (1, 2)]]),
    (noises_of, [LINE, WORD, SPAN]), (heard_by, [LINE, WORD, SPAN]), (is_hushed, [LINE, WORD, SPAN]),
    (place_hum, [SPAN, HUM]), (place_hum, [SPAN, list(SPAN.hums[1])]), (place_fault, [SPAN, HUM, Made([(1, 1), (1, 1)])]),
    (place_fault, [SPAN, HUM, Apart(list(HUM))]), (lean_hums, [SPAN]), (holds_span, [SPAN, SPAN]), (same_span, [SPAN, SPAN]),
    (order_of, [LINE, WORD]), (order_noise, [LINE, WORD]), (loud_polynomial, [LINE, WORD]),
    (loud_fault, [LINE, WORD, [(1, 1), (2, 1)]]), (hushing_poles, [LINE, WORD, SPAN]), (balance_of, [WORD, SPAN]),
    (balance_of, [OTHER, SPAN]), (balance_fault, [WORD, SPAN, Balance([(1, 1)] * 4)]),
    (balance_fault, [WORD, SPAN, Loud([(1, 1), (0, 1)], [(1, 1)] * 4)]), (hushing_lengths, [list(LINE.marks), WORD]),
    (Limits, [[(1, 1), None], [(1, 1)]]), (Limits.alike, [3, (1, 1), None]), (LIMITS.with_most, [1, (1, 1)]),
    (LIMITS.with_step, [1, (1, 1)]), (LIMITS.grown, [(2, 1)]), (LIMITS.both, [FREE]), (LIMITS.backward, []),
    (check_limits, [LINE, LIMITS]), (within_limits, [HUM, LIMITS]), (tighten, [LIMITS]), (let_same, [LIMITS, FREE]),
    (let_more, [FREE, LIMITS]), (check_known, [LIMITS, KNOWN]), (hum_through, [LIMITS, KNOWN]),
    (running_of, [LINE, WORD]), (check_sums, [LINE, SUMS]), (sums_cost, [LINE, WORD, LIMITS, SUMS]),
    (spare_parts, [LINE, WORD, LIMITS, [(1, 1)] * 4, SUMS]), (never_louder, [LINE, WORD, OTHER]),
    (greatest_noise, [LINE, WORD, LIMITS]), (greatest_noise, [LINE, WORD, FREE]),
    (greatest_fault, [LINE, WORD, LIMITS, GREATEST]), (endless_fault, [LINE, WORD, FREE, Endless(tuple(HUM))]),
    (quietest_words, [LINE, LIMITS, 2]), (noise_course, [LINE, WORD, LIMITS]), (noise_course, [LINE, WORD, FREE]),
    (most_factor, [LINE, WORD, LIMITS, (1, 1)]), (Plan, [LINE, [WORD, OTHER]]), (PLAN.with_word, [WORD]),
    (PLAN.without, [0]), (PLAN.product_at, [0, 1]), (first_heard, [PLAN, SPAN, SPAN]), (check_hums, [LINE, HUMS]),
    (layers_of, [LINE, HUMS]), (first_word, [LINE, HUMS]), (first_word, [EVEN, [[(1, 1)] * 4]]),
    (layers_fault, [LINE, HUMS, Layers(layers_of(LINE, HUMS))]), (hushed_words, [EVEN, LEVEL]), (count_hushed, [EVEN, LEVEL]),
    (hushed_number, [EVEN, LEVEL, WORD]), (hushed_by_number, [EVEN, LEVEL, 1]), (least_crossed, [EVEN, LEVEL]),
    (hums_for, [PLAN, SPAN, SPAN]), (further_word, [PLAN, SPAN, SPAN]), (further_word, [UPRIGHT, LEVEL, LEVEL]),
    (all_further, [UPRIGHT, LEVEL, LEVEL]), (count_further, [UPRIGHT, LEVEL, LEVEL]), (is_full, [UPRIGHT, LEVEL, LEVEL]),
    (all_plans, [EVEN, LEVEL, LEVEL, 2]), (count_plans, [EVEN, LEVEL, LEVEL, 2]), (most_pairs, [EVEN, LEVEL, LEVEL]),
    (full_plans, [EVEN, LEVEL, LEVEL]), (pairs_bound, [4, 1, 1]), (right_blocks, [PLAN, 2, 3]), (rank_of, [LINE, HUMS]),
    (plan_bar, [4, 2]), (split_hum, [UPRIGHT, HUM]), (unheard_of, [UPRIGHT, HUM]), (double_word, [WORD]),
    (double_line, [LINE, (9, 1)]), (join_words, [WORD, OTHER]), (sum_rows, [WORD]), (binomial_noises, [WORD, 3]),
    (nest_words, [WORD, OTHER]), (nest_lines, [LINE, EVEN, (9, 1)]), (nest_hums, [HUM, HUM]), (nest_spans, [LEVEL, SPAN]),
    (nest_plans, [Plan(EVEN, [WORD]), PLAN, (5, 1)]), (weakest_order, [PLAN]),
    (mirror_of, [WORD]), (mirrors_itself, [LINE]), (mirrored_words, [5]), (fold_lengths, [WORD]), (unfold_word, [WORD, 2]),
    (unfoldings_of, [WORD]), (is_prime_word, [WORD]), (check_links, [LINKS]), (nest_links, [LINKS]), (all_links, [WORD]),
    (links_of, [WORD]), (exchange_links, [LINKS, 0]), (way_between, [LINKS, EXCHANGED]),
    (way_fault, [LINKS, EXCHANGED, [0]]), (prime_words, [4]), (count_primes, [12]), (Chain, [LINKS]), (CHAIN.sign_at, [3]),
    (CHAIN.running_at, [3]), (CHAIN.noises_to, [3]), (CHAIN.widest_sums, []), (CHAIN.written, []),
    (CHAIN.nest_around, [CHAIN]), (Pattern, [WORD]), (PATTERN.sign_at, [9]), (PATTERN.word_at, [9]),
    (repeat_pattern, [PATTERN, 3]), (product_pattern, [PATTERN, SHORT]), (least_pattern, [PATTERN]),
    (unlike_at, [PATTERN, SHORT]), (steady_patterns, [4, (2, 1)]), (count_steady, [4, (2, 1)]), (noise_at, [SHORT, 2, 10]),
    (form_of, [SHORT, 1, 0]), (form_at, [HUM, 3]), (form_fault, [SHORT, 1, 0, HUM]), (hushed_extents, [SHORT, 1]),
    (order_at, [PATTERN, 8]), (plan_extents, [[PATTERN, SHORT], 1, 1]), (hushed_extents(SHORT, 1).holds, [4]),
    (hushed_extents(SHORT, 1).next_after, [3]), (hushed_extents(SHORT, 1).many_upto, [3]),
    (quiet_extents, [SHORT, 1, (5, 1)]), (loud_from, [SHORT, 1, (5, 1)]), (greatest_upto, [SHORT, 1, 9]),
    (quiet_extents(SHORT, 0, (5, 1)).holds, [9]), (quiet_extents(SHORT, 0, (5, 1)).last_extent, []),
    (steps_noise, [PATTERN, 8]), (tied_noise, [PATTERN, 7]), (Layout, [3, [[0, 1], [1, 2]]]), (spot_couples, [3]),
    (still_layout, [3, [2, 0], 4]), (turning_layout, [3, 2, 4]), (moves_of, [ARM]), (check_legs, [ARM, [1, 0]]),
    (exchanged_layout, [ARM, 2, [1, 0]]), (spot_sums, [PLAN, ARM, 0, HUM]), (couple_sums, [PLAN, ARM, 0, 1, HUM]),
    (spot_noise, [PLAN, ARM, 0, HUM, STRENGTHS]), (couple_noise, [PLAN, ARM, 0, 1, HUM, STRENGTHS]),
    (arm_heard, [PLAN, ARM, SPAN, SPAN]), (arm_heard, [PLAN, ARM, None, SPAN]),
    (heard_strengths, [ARM, SpotHeard(0, 1, 0, (1, 1))]), (group_heard, [PLAN, ARM, SPAN, [0, 0, 1]]),
    (loudest_strengths, [PLAN, ARM, 0, HUM, STRENGTHS, [(3, 1)] * 3]), (arm_words, [EVEN, ARM, 0, LEVEL]),
    (count_arm_words, [EVEN, ARM, 0, LEVEL]), (lone_spot, [EVEN, ARM, 0, LEVEL]), (stand_sums, [LINE, ARM, 0, HUM]),
    (talk_noise, [LINE, ARM, [1, 0], HUM, STRENGTHS]), (further_talk, [LINE, ARM, [1, 0], SPAN]),
    (talk_lots, [LINE, ARM, SPAN]), (talk_reaches, [THREE, ARM_OF_THREE, [2, 0], 1, LEVEL]),
    (swap_word, [Layout(2, [[0, 1], [1, 0]])]), (least_talk, [EVEN, 3, LEVEL]), (finer_line, [LINE, 3]),
    (finer_row, [[4, 5], 3]), (finer_span, [SPAN, 3]), (turn_plan, [PLAN, 3]), (roundabout_of, [LINE, WORD, OTHER]),
    (by_way, [THREE, 0, 1, 2]), (round_table, [THREE, 0, 0]), (first_round, [THREE]), (check_slacks, [LINE, SLACKS]),
    (check_shifts, [LINE, SLACKS]), (shifted_line, [LINE, SLACKS]), (slack_range, [LINE, WORD, HUM, SLACKS]),
    (shifts_meeting, [LINE, WORD, HUM, SLACKS, (1, 2)]), (hushing_shifts, [LINE, [WORD, OTHER], SLACKS]),
    (hushing_shifts, [EVEN, [WORD, OTHER], SLACKS]), (hushing_fault, [LINE, [WORD], SLACKS, Hushing(SLACKS)]),
    (least_slack, [LINE, [WORD, OTHER]]), (slack_fault, [LINE, [WORD], Least((1, 2), SLACKS, [(1, 1)])]),
    (wrong_word, [LINE, WORD, [3, 1]]), (wrong_lots, [LINE, 2]), (check_tests, [LINE, HUMS]),
    (read_tests, [LINE, WORD, HUMS]), (lots_that_fit, [EVEN, WORD, HUMS[1:], READINGS[:1], 2]),
    (sure_wrong, [EVEN, OTHER, HUMS[1:], [(4, 1)], 2]), (sure_right, [EVEN, OTHER, HUMS[1:], [(4, 1)], 2]),
    (telling_hum, [LINE]), (word_of_reading, [LINE, (1, 1)]), (told_apart, [EVEN, WORD, HUMS, 2]),
    (least_pools, [EVEN, WORD, HUMS, 1]), (best_tree, [EVEN, WORD, HUMS, 2]),
    (follow_tree, [best_tree(EVEN, WORD, HUMS, 2), READINGS]), (check_changes, [PLAN, CHANGES]),
    (plan_after, [PLAN, CHANGES]), (check_wishes, [LINE, WISHES]), (first_broken, [PLAN, WISHES]),
    (grants_all, [PLAN, WISHES]), (nearest_hushed, [LINE, WORD, SPAN]), (nearest_hushed, [EVEN, OTHER, LEVEL]),
    (find_mends, [PLAN, CHANGES, WISHES]), (mends_fault, [PLAN, CHANGES, WISHES, Mends([[1]], [])]),
    (find_spoilers, [PLAN, CHANGES, [["pairs", 2]]]), (BENCH.grants, WISHES)]
KNOWING = [(sums_cost, [LINE, WORD, LIMITS, SUMS]), (spare_parts, [LINE, WORD, LIMITS, [(1, 1)] * 4, SUMS]),
           (greatest_noise, [LINE, WORD, LIMITS]), (greatest_noise, [LINE, WORD, FREE]),
           (greatest_fault, [LINE, WORD, LIMITS, GREATEST]), (endless_fault, [LINE, WORD, FREE, Endless(tuple(HUM))])]


def drawn(thing):
    """A thing as texts and tuples, objects by their attributes: what two alike things share."""
    if isinstance(thing, (list, tuple)):
        return (type(thing).__name__,) + tuple(drawn(one) for one in thing)
    if hasattr(thing, "__dict__"):
        return (type(thing).__name__,) + tuple((name, drawn(one)) for name, one in sorted(vars(thing).items()))
    return repr(thing)


def as_tuples(thing):
    return tuple(as_tuples(one) for one in thing) if isinstance(thing, (list, tuple)) else thing


def as_lists(thing):
    """All rows as lists; ratios stay tuples."""
    if isinstance(thing, (list, tuple)) and not is_true_ratio(thing):
        return [as_lists(one) for one in thing]
    return thing


def ran(call, given, **named):
    told = call(*given, **named)
    return tuple(told) if isinstance(told, GeneratorType) else told


def spoil(thing):
    """Change each list in a thing that was passed in."""
    if isinstance(thing, (list, tuple)):
        for one in thing:
            spoil(one)
    if isinstance(thing, list):
        thing.reverse()
        thing.append("spoilt")


class PassedInTest(Case):
    def all_calls(self):
        for call, given in CALLS:
            yield call, given, {}
        for call, given in KNOWING:
            yield call, given, {"known": [list(couple) for couple in HALF_KNOWN]}

    def test_nothing_is_changed(self):
        for call, given, named in self.all_calls():
            before = drawn((given, list(named.values()), getattr(call, "__self__", None)))
            ran(call, given, **named)
            self.assertEqual(drawn((given, list(named.values()), getattr(call, "__self__", None))), before, call)

    def test_nothing_is_kept(self):
        for call, given, named in self.all_calls():
            own, own_named = copy.deepcopy(given), copy.deepcopy(named)
            told = ran(call, own, **own_named)
            before = drawn(told)
            spoil(own)
            spoil(list(own_named.values()))
            self.assertEqual(drawn(told), before, call)
            self.assertEqual(drawn(ran(call, given, **named)), before, call)

    def test_rows_are_lists_or_tuples(self):
        for call, given, named in self.all_calls():
            told = drawn(ran(call, given, **named))
            for form in (as_tuples, as_lists):
                other = {name: form(thing) for name, thing in named.items()}
                self.assertEqual(drawn(ran(call, [form(one) for one in given], **other)), told, call)

    def test_results_hold_no_lists(self):
        for call, given, named in self.all_calls():
            self.assertNotIn("'list'", repr(drawn(ran(call, given, **named))), call)

    def test_truths_are_truths(self):
        for told in (is_hushed(LINE, WORD, SPAN), holds_span(SPAN, SPAN), same_span(SPAN, SPAN),
                     let_same(LIMITS, FREE), LINE.is_even, plan_hushed(PLAN, SPAN, None),
                     is_full(PLAN, SPAN, SPAN), is_full(UPRIGHT, LEVEL, LEVEL), mirrors_itself(LINE), mirrors_itself(EVEN),
                     is_prime_word(WORD), is_prime_word([1, -1]), hushed_extents(SHORT, 1).holds(4),
                     quiet_extents(SHORT, 0, (5, 1)).holds(4), quiet_extents(SHORT, 0, (0, 1)).holds(5),
                     grants_all(PLAN, WISHES), grants_all(PLAN, [("pairs", 2)]), BENCH.grants(("pairs", 2))):
            self.assertIs(type(told), bool)


class EqualTest(Case):
    def test_objects_equal_only_their_own_kind(self):
        made = [LINE, SPAN, LIMITS, PLAN, Heard(0, 0), Made(0), Apart(0), Balance(0), Loud(0, 0), Clash(0, 0),
                Greatest(0, 0, 0), Endless(0), Quiet(0, 0), Course(0, 0), Outside(0, 0, 0), Between(0, 0, 0, 0),
                Layers(0), Split(0, 0, 0), CHAIN, PATTERN, Extents(0, 0), QuietExtents(0, 0), Reached(0, 0), ARM,
                SpotHeard(0, 0, 0, 0), CoupleHeard(0, 0, 0, 0, 0), GroupHeard(0, 0, 0, 0), StrengthRange(0, 0, 0, 0),
                TalkHeard(0, 0, 0), ReachHeard(0, 0, 0), Turned(0, 0), Round(0, 0, 0, 0), ShiftRange(0, 0, 0, 0),
                Hushing(0), Fixed(0), Least(0, 0, 0), Alike(0, 0), Ask(0, 0), Found(0), Stuck(0), Lacking(0), Broken(0, 0),
                Nearest(0, 0), Mends(0, 0), Spoiler(0, 0)]
        for number, one in enumerate(made):
            for place, other in enumerate(made):
                self.assertIs(one == other, number == place)
                self.assertIs(one != other, number != place)
            self.assertEqual(one, copy.deepcopy(one))
            for thing in (None, 0, (), one.__dict__, "x"):
                self.assertFalse(one == thing)

    def test_results_take_their_names(self):
        self.assertEqual(vars(Heard(hum=1, noise=2)), {"hum": 1, "noise": 2})
        self.assertEqual(vars(Made(shares=1)), {"shares": 1})
        self.assertEqual(vars(Apart(row=1)), {"row": 1})
        self.assertEqual(vars(Balance(lengths=1)), {"lengths": 1})
        self.assertEqual(vars(Loud(shares=1, hum=2)), {"shares": 1, "hum": 2})
        self.assertEqual(vars(Clash(first=1, second=2)), {"first": 1, "second": 2})
        self.assertEqual(vars(Greatest(amount=1, hum=2, sums=3)), {"amount": 1, "hum": 2, "sums": 3})
        self.assertEqual(vars(Endless(hum=1)), {"hum": 1})
        self.assertEqual(vars(Quiet(amount=1, words=2)), {"amount": 1, "words": 2})
        self.assertEqual(vars(Course(corners=1, slope=2)), {"corners": 1, "slope": 2})
        self.assertEqual(vars(Outside(pair=1, hum=2, noise=3)), {"pair": 1, "hum": 2, "noise": 3})
        self.assertEqual(vars(Between(pair=1, other=2, hum=3, noise=4)), {"pair": 1, "other": 2, "hum": 3, "noise": 4})

        self.assertEqual(vars(Layers(layers=1)), {"layers": 1})
        self.assertEqual(vars(Split(level=1, shares=2, rest=3)), {"level": 1, "shares": 2, "rest": 3})
        self.assertEqual(vars(Extents(period=1, rows=2)), {"period": 1, "rows": 2})


if __name__ == "__main__":
    unittest.main()
