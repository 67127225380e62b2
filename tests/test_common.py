"""Points 0.1 to 0.10 where they hold for everything: what is passed in, what comes back, what is equal."""

import copy
import unittest
from types import GeneratorType

from hushedwires.balances import Balance, Loud, balance_fault, balance_of, hushing_lengths
from hushedwires.bounds import pairs_bound, plan_bar, rank_of, right_blocks
from hushedwires.chains import Chain
from hushedwires.courses import Course, most_factor, noise_course
from hushedwires.doubling import binomial_noises, double_line, double_word, join_words, sum_rows
from hushedwires.extents import Extents, hushed_extents, order_at, plan_extents
from hushedwires.folding import fold_lengths, is_prime_word, unfold_word, unfoldings_of
from hushedwires.forms import form_at, form_fault, form_of, noise_at
from hushedwires.further import all_further, count_further, further_word, hums_for, is_full
from hushedwires.hums import binomial_hum, level_hum, mark_hum, noise_of, polynomial_hum, stretch_hum
from hushedwires.layers import Layers, check_hums, first_word, layers_fault, layers_of
from hushedwires.limits import (
    Clash, Limits, check_known, check_limits, hum_through, let_more, let_same, tighten, within_limits)
from hushedwires.lines import Line, check_hum, check_marks
from hushedwires.linetext import line_of, line_text
from hushedwires.linking import (
    all_links, check_links, exchange_links, links_of, nest_links, way_between, way_fault)
from hushedwires.listing import count_hushed, hushed_by_number, hushed_number, hushed_words, least_crossed
from hushedwires.loudest import Endless, Greatest, endless_fault, greatest_fault, greatest_noise
from hushedwires.mirrors import mirror_of, mirrored_words, mirrors_itself
from hushedwires.nesting import nest_hums, nest_lines, nest_plans, nest_spans, nest_words, weakest_order
from hushedwires.orders import hushing_poles, loud_fault, loud_polynomial, order_noise, order_of
from hushedwires.patterns import (
    Pattern, count_steady, least_pattern, product_pattern, repeat_pattern, steady_patterns, unlike_at)
from hushedwires.planlists import all_plans, count_plans, full_plans, most_pairs
from hushedwires.plans import Between, Outside, Plan, first_heard, plan_hushed
from hushedwires.primes import count_primes, prime_words
from hushedwires.quietest import Quiet, quietest_words
from hushedwires.ratios import greatest_of, least_of, sum_of
from hushedwires.running import check_sums, never_louder, running_of, spare_parts, sums_cost
from hushedwires.sames import Apart, Made, holds_span, lean_hums, place_fault, place_hum, same_span
from hushedwires.spans import (
    Heard, Span, check_span, degree_span, heard_by, hum_by_shares, is_hushed, noises_of, stretch_span)
from hushedwires.splits import Split, split_hum, unheard_of
from hushedwires.words import (
    backward_word, check_poles, check_signs, check_word, crossed_at, crossings_of, cut_word, each_word, number_of_word,
    opposite_of, product_of, turned_word, word_by_number, word_with)
from hushedwires.wordtext import hum_of, hum_text, word_of, word_text, words_of, words_text
from tests.reckon import Case, is_true_ratio

LINE = Line([(1, 1), (3, 2), (2, 1), (1, 1)], [(-1, 1), (0, 1), (1, 2), (3, 1)])
WORD, OTHER, THIRD = [1, -1, -1, 1], [1, 1, -1, -1], [1, -1, 1, -1]
HUM = [(1, 1), (-1, 2), (0, 1), (1, 1)]
SPAN = Span([[(1, 1), (1, 1), (1, 1), (1, 1)], [(0, 1), (1, 1), (2, 1), (3, 1)]])
LIMITS = Limits([(2, 1), None, (1, 1), (3, 1)], [(1, 1), (5, 2), None])
FREE = Limits([None] * 4, [(1, 1)] * 3)
KNOWN = [[0, (1, 1)], (2, (-1, 2))]
HALF_KNOWN = ((0, (1, 1)),)
SUMS = [(0, 1), (1, 1), (-1, 2), (0, 1), (0, 1)]
PLAN = Plan(LINE, [OTHER, THIRD])
EVEN = Line.even(4)
LEVEL = degree_span(EVEN, 1)
UPRIGHT = Plan(EVEN, [OTHER, THIRD])
HUMS = [HUM, [(1, 1)] * 4]
LINKS, EXCHANGED = [[1, 1, 1], [1, -1]], [[1, -1], [1, -1, 1]]
CHAIN = Chain([WORD, [1, 1, -1]])
PATTERN, SHORT = Pattern(WORD), Pattern([1, -1, -1])
GREATEST = greatest_noise(LINE, WORD, LIMITS)

CALLS = [
    (sum_of, [HUM]), (least_of, [HUM]), (greatest_of, [HUM]),
    (Line, [list(LINE.lengths), list(LINE.marks)]), (LINE.cut_section, [1, (1, 2), (1, 4)]), (LINE.backward, []),
    (LINE.grown, [(2, 1)]), (LINE.shifted, [(2, 1)]), (LINE.joined_to, [LINE, (1, 1)]), (check_marks, [list(LINE.marks)]),
    (check_hum, [4, HUM]), (check_signs, [WORD]), (check_word, [LINE, WORD]), (turned_word, [[-1, 1]]),
    (opposite_of, [WORD]), (crossings_of, [WORD]), (check_poles, [9, [5, 3]]), (word_with, [9, [5, 3]]),
    (crossed_at, [WORD, 2]), (product_of, [WORD, OTHER]), (backward_word, [WORD]), (cut_word, [WORD, 1]),
    (word_by_number, [4, 3]), (number_of_word, [WORD]), (each_word, [3]), (line_text, [LINE]), (line_of, ["1:0 2:1"]),
    (word_text, [WORD]), (words_text, [[WORD, OTHER]]), (hum_text, [HUM]), (word_of, ["+-"]), (words_of, ["+-\n++"]),
    (hum_of, ["1 2"]), (noise_of, [LINE, WORD, HUM]), (level_hum, [LINE]), (mark_hum, [LINE, 2]), (stretch_hum, [4, 1, 2]),
    (polynomial_hum, [LINE, HUM]), (binomial_hum, [4, 1]), (Span, [[HUM, HUM]]), (check_span, [LINE, SPAN]),
    (degree_span, [LINE, 3]), (stretch_span, [4, [[0, 1], (1, 3)]]), (hum_by_shares, [SPAN, [(1, 1), (1, 2)]]),
    (noises_of, [LINE, WORD, SPAN]), (heard_by, [LINE, WORD, SPAN]), (is_hushed, [LINE, WORD, SPAN]),
    (place_hum, [SPAN, HUM]), (place_hum, [SPAN, list(SPAN.hums[1])]), (place_fault, [SPAN, HUM, Made([(1, 1), (1, 1)])]),
    (place_fault, [SPAN, HUM, Apart(list(HUM))]), (lean_hums, [SPAN]), (holds_span, [SPAN, SPAN]), (same_span, [SPAN, SPAN]),
    (order_of, [LINE, WORD]), (order_noise, [LINE, WORD]), (loud_polynomial, [LINE, WORD]),
    (loud_fault, [LINE, WORD, [(1, 1), (2, 1)]]), (hushing_poles, [LINE, WORD, SPAN]), (balance_of, [WORD, SPAN]),
    (balance_of, [OTHER, SPAN]), (balance_fault, [WORD, SPAN, Balance([(1, 1)] * 4)]),
    (balance_fault, [WORD, SPAN, Loud([(1, 1), (0, 1)], [(1, 1)] * 4)]), (hushing_lengths, [list(LINE.marks), WORD]),
    (Limits, [[(1, 1), None], [(1, 1)]]), (Limits.alike, [3, (1, 1), None]), (LIMITS.with_most, [1, (1, 1)]),
    (LIMITS.with_step, [1, (1, 1)]), (LIMITS.grown, [(2, 1)]), (LIMITS.both, [FREE]), (LIMITS.backward, []),
    (check_limits, [LINE, LIMITS]), (within_limits, [HUM, LIMITS]), (tighten, [LIMITS]), (let_same, [LIMITS, FREE]),
    (let_more, [FREE, LIMITS]), (check_known, [LIMITS, KNOWN]), (hum_through, [LIMITS, KNOWN]),
    (running_of, [LINE, WORD]), (check_sums, [LINE, SUMS]), (sums_cost, [LINE, WORD, LIMITS, SUMS]),
    (spare_parts, [LINE, WORD, LIMITS, [(1, 1)] * 4, SUMS]), (never_louder, [LINE, WORD, OTHER]),
    (greatest_noise, [LINE, WORD, LIMITS]), (greatest_noise, [LINE, WORD, FREE]),
    (greatest_fault, [LINE, WORD, LIMITS, GREATEST]), (endless_fault, [LINE, WORD, FREE, Endless(tuple(HUM))]),
    (quietest_words, [LINE, LIMITS, 2]), (noise_course, [LINE, WORD, LIMITS]), (noise_course, [LINE, WORD, FREE]),
    (most_factor, [LINE, WORD, LIMITS, (1, 1)]), (Plan, [LINE, [WORD, OTHER]]), (PLAN.with_word, [WORD]),
    (PLAN.without, [0]), (PLAN.product_at, [0, 1]), (first_heard, [PLAN, SPAN, SPAN]), (check_hums, [LINE, HUMS]),
    (layers_of, [LINE, HUMS]), (first_word, [LINE, HUMS]), (first_word, [EVEN, [[(1, 1)] * 4]]),
    (layers_fault, [LINE, HUMS, Layers(layers_of(LINE, HUMS))]), (hushed_words, [EVEN, LEVEL]), (count_hushed, [EVEN, LEVEL]),
    (hushed_number, [EVEN, LEVEL, WORD]), (hushed_by_number, [EVEN, LEVEL, 1]), (least_crossed, [EVEN, LEVEL]),
    (hums_for, [PLAN, SPAN, SPAN]), (further_word, [PLAN, SPAN, SPAN]), (further_word, [UPRIGHT, LEVEL, LEVEL]),
    (all_further, [UPRIGHT, LEVEL, LEVEL]), (count_further, [UPRIGHT, LEVEL, LEVEL]), (is_full, [UPRIGHT, LEVEL, LEVEL]),
    (all_plans, [EVEN, LEVEL, LEVEL, 2]), (count_plans, [EVEN, LEVEL, LEVEL, 2]), (most_pairs, [EVEN, LEVEL, LEVEL]),
    (full_plans, [EVEN, LEVEL, LEVEL]), (pairs_bound, [4, 1, 1]), (right_blocks, [PLAN, 2, 3]), (rank_of, [LINE, HUMS]),
    (plan_bar, [4, 2]), (split_hum, [UPRIGHT, HUM]), (unheard_of, [UPRIGHT, HUM]), (double_word, [WORD]),
    (double_line, [LINE, (9, 1)]), (join_words, [WORD, OTHER]), (sum_rows, [WORD]), (binomial_noises, [WORD, 3]),
    (nest_words, [WORD, OTHER]), (nest_lines, [LINE, EVEN, (9, 1)]), (nest_hums, [HUM, HUM]), (nest_spans, [LEVEL, SPAN]),
    (nest_plans, [Plan(EVEN, [WORD]), PLAN, (5, 1)]), (weakest_order, [PLAN]),
    (mirror_of, [WORD]), (mirrors_itself, [LINE]), (mirrored_words, [5]), (fold_lengths, [WORD]), (unfold_word, [WORD, 2]),
    (unfoldings_of, [WORD]), (is_prime_word, [WORD]), (check_links, [LINKS]), (nest_links, [LINKS]), (all_links, [WORD]),
    (links_of, [WORD]), (exchange_links, [LINKS, 0]), (way_between, [LINKS, EXCHANGED]),
    (way_fault, [LINKS, EXCHANGED, [0]]), (prime_words, [4]), (count_primes, [12]), (Chain, [LINKS]), (CHAIN.sign_at, [3]),
    (CHAIN.running_at, [3]), (CHAIN.noises_to, [3]), (CHAIN.widest_sums, []), (CHAIN.written, []),
    (CHAIN.nest_around, [CHAIN]), (Pattern, [WORD]), (PATTERN.sign_at, [9]), (PATTERN.word_at, [9]),
    (repeat_pattern, [PATTERN, 3]), (product_pattern, [PATTERN, SHORT]), (least_pattern, [PATTERN]),
    (unlike_at, [PATTERN, SHORT]), (steady_patterns, [4, (2, 1)]), (count_steady, [4, (2, 1)]), (noise_at, [SHORT, 2, 10]),
    (form_of, [SHORT, 1, 0]), (form_at, [HUM, 3]), (form_fault, [SHORT, 1, 0, HUM]), (hushed_extents, [SHORT, 1]),
    (order_at, [PATTERN, 8]), (plan_extents, [[PATTERN, SHORT], 1, 1]), (hushed_extents(SHORT, 1).holds, [4]),
    (hushed_extents(SHORT, 1).next_after, [3]), (hushed_extents(SHORT, 1).many_upto, [3])]
KNOWING = [(sums_cost, [LINE, WORD, LIMITS, SUMS]), (spare_parts, [LINE, WORD, LIMITS, [(1, 1)] * 4, SUMS]),
           (greatest_noise, [LINE, WORD, LIMITS]), (greatest_noise, [LINE, WORD, FREE]),
           (greatest_fault, [LINE, WORD, LIMITS, GREATEST]), (endless_fault, [LINE, WORD, FREE, Endless(tuple(HUM))])]


def drawn(thing):
    """A thing as texts and tuples, objects by their attributes: what two alike things share."""
    if isinstance(thing, (list, tuple)):
        return (type(thing).__name__,) + tuple(drawn(one) for one in thing)
    if hasattr(thing, "__dict__"):
        return (type(thing).__name__,) + tuple((name, drawn(one)) for name, one in sorted(vars(thing).items()))
    return repr(thing)


def as_tuples(thing):
    return tuple(as_tuples(one) for one in thing) if isinstance(thing, (list, tuple)) else thing


def as_lists(thing):
    """All rows as lists; ratios stay tuples."""
    if isinstance(thing, (list, tuple)) and not is_true_ratio(thing):
        return [as_lists(one) for one in thing]
    return thing


def ran(call, given, **named):
    told = call(*given, **named)
    return tuple(told) if isinstance(told, GeneratorType) else told


def spoil(thing):
    """Change each list in a thing that was passed in."""
    if isinstance(thing, (list, tuple)):
        for one in thing:
            spoil(one)
    if isinstance(thing, list):
        thing.reverse()
        thing.append("spoilt")


class PassedInTest(Case):
    def all_calls(self):
        for call, given in CALLS:
            yield call, given, {}
        for call, given in KNOWING:
            yield call, given, {"known": [list(couple) for couple in HALF_KNOWN]}

    def test_nothing_is_changed(self):
        for call, given, named in self.all_calls():
            before = drawn((given, list(named.values()), getattr(call, "__self__", None)))
            ran(call, given, **named)
            self.assertEqual(drawn((given, list(named.values()), getattr(call, "__self__", None))), before, call)

    def test_nothing_is_kept(self):
        for call, given, named in self.all_calls():
            own, own_named = copy.deepcopy(given), copy.deepcopy(named)
            told = ran(call, own, **own_named)
            before = drawn(told)
            spoil(own)
            spoil(list(own_named.values()))
            self.assertEqual(drawn(told), before, call)
            self.assertEqual(drawn(ran(call, given, **named)), before, call)

    def test_rows_are_lists_or_tuples(self):
        for call, given, named in self.all_calls():
            told = drawn(ran(call, given, **named))
            for form in (as_tuples, as_lists):
                other = {name: form(thing) for name, thing in named.items()}
                self.assertEqual(drawn(ran(call, [form(one) for one in given], **other)), told, call)

    def test_results_hold_no_lists(self):
        for call, given, named in self.all_calls():
            self.assertNotIn("'list'", repr(drawn(ran(call, given, **named))), call)

    def test_truths_are_truths(self):
        for told in (is_hushed(LINE, WORD, SPAN), holds_span(SPAN, SPAN), same_span(SPAN, SPAN),
                     let_same(LIMITS, FREE), LINE.is_even, plan_hushed(PLAN, SPAN, None),
                     is_full(PLAN, SPAN, SPAN), is_full(UPRIGHT, LEVEL, LEVEL), mirrors_itself(LINE), mirrors_itself(EVEN),
                     is_prime_word(WORD), is_prime_word([1, -1]), hushed_extents(SHORT, 1).holds(4)):
            self.assertIs(type(told), bool)


class EqualTest(Case):
    def test_objects_equal_only_their_own_kind(self):
        made = [LINE, SPAN, LIMITS, PLAN, Heard(0, 0), Made(0), Apart(0), Balance(0), Loud(0, 0), Clash(0, 0),
                Greatest(0, 0, 0), Endless(0), Quiet(0, 0), Course(0, 0), Outside(0, 0, 0), Between(0, 0, 0, 0),
                Layers(0), Split(0, 0, 0), CHAIN, PATTERN, Extents(0, 0)]
        for number, one in enumerate(made):
            for place, other in enumerate(made):
                self.assertIs(one == other, number == place)
                self.assertIs(one != other, number != place)
            self.assertEqual(one, copy.deepcopy(one))
            for thing in (None, 0, (), one.__dict__, "x"):
                self.assertFalse(one == thing)

    def test_results_take_their_names(self):
        self.assertEqual(vars(Heard(hum=1, noise=2)), {"hum": 1, "noise": 2})
        self.assertEqual(vars(Made(shares=1)), {"shares": 1})
        self.assertEqual(vars(Apart(row=1)), {"row": 1})
        self.assertEqual(vars(Balance(lengths=1)), {"lengths": 1})
        self.assertEqual(vars(Loud(shares=1, hum=2)), {"shares": 1, "hum": 2})
        self.assertEqual(vars(Clash(first=1, second=2)), {"first": 1, "second": 2})
        self.assertEqual(vars(Greatest(amount=1, hum=2, sums=3)), {"amount": 1, "hum": 2, "sums": 3})
        self.assertEqual(vars(Endless(hum=1)), {"hum": 1})
        self.assertEqual(vars(Quiet(amount=1, words=2)), {"amount": 1, "words": 2})
        self.assertEqual(vars(Course(corners=1, slope=2)), {"corners": 1, "slope": 2})
        self.assertEqual(vars(Outside(pair=1, hum=2, noise=3)), {"pair": 1, "hum": 2, "noise": 3})
        self.assertEqual(vars(Between(pair=1, other=2, hum=3, noise=4)), {"pair": 1, "other": 2, "hum": 3, "noise": 4})

        self.assertEqual(vars(Layers(layers=1)), {"layers": 1})
        self.assertEqual(vars(Split(level=1, shares=2, rest=3)), {"level": 1, "shares": 2, "rest": 3})
        self.assertEqual(vars(Extents(period=1, rows=2)), {"period": 1, "rows": 2})


if __name__ == "__main__":
    unittest.main()
