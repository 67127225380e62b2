"""The interface: names, arguments, and the file in which each thing is defined."""

import importlib
import inspect
import unittest

FUNCTIONS = {
    "ratios": """is_whole(thing,low=None,high=None) is_ratio(thing) make_ratio(top,bottom=1) plus(one,other)
        minus(one,other) times(one,other) over(one,other) negative(one) size_of(one) power_of(one,exponent)
        sum_of(row) least_of(row) greatest_of(row) compare(one,other) ratio_text(one) ratio_of(text)""",
    "lines": "check_marks(marks) check_hum(count,hum)",
    "words": """check_signs(word) check_word(line,word) turned_word(signs) opposite_of(word) crossings_of(word)
        check_poles(count,poles) word_with(count,poles) crossed_at(word,pole) product_of(one,other)
        backward_word(word) cut_word(word,section) word_by_number(count,number) number_of_word(word)
        each_word(count)""",
    "linetext": "line_text(line) line_of(text)",
    "wordtext": "word_text(word) words_text(words) hum_text(hum) word_of(text) words_of(text) hum_of(text)",
    "hums": """noise_of(line,word,hum) level_hum(line) mark_hum(line,power) stretch_hum(count,low,high)
        polynomial_hum(line,coefficients) binomial_hum(count,lower)""",
    "spans": """check_span(line,span) degree_span(line,degree) stretch_span(count,stretches)
        hum_by_shares(span,shares) noises_of(line,word,span) heard_by(line,word,span) is_hushed(line,word,span)""",
    "sames": """place_hum(span,hum) place_fault(span,hum,told) lean_hums(span) holds_span(one,other)
        same_span(one,other)""",
    "orders": """order_of(line,word) order_noise(line,word) loud_polynomial(line,word)
        loud_fault(line,word,coefficients) hushing_poles(line,word,span) length_bar(length,degree)""",
    "balances": "balance_of(word,span) balance_fault(word,span,told) hushing_lengths(marks,word)",
    "limits": """check_limits(line,limits) within_limits(hum,limits) tighten(limits) let_same(one,other)
        let_more(one,other) check_known(limits,known) hum_through(limits,known)""",
    "running": """running_of(line,word) check_sums(line,sums) sums_cost(line,word,limits,sums,*,known=())
        spare_parts(line,word,limits,hum,sums,*,known=()) never_louder(line,word,other)""",
    "loudest": """greatest_noise(line,word,limits,*,known=()) greatest_fault(line,word,limits,greatest,*,known=())
        endless_fault(line,word,limits,endless,*,known=())""",
    "quietest": "quietest_words(line,limits,crossings)",
    "courses": "noise_course(line,word,limits) most_factor(line,word,limits,amount)",
    "plans": """check_pair(plan,pair) check_asked(line,span) first_heard(plan,outside,between)
        plan_hushed(plan,outside,between)""",
    "layers": "check_hums(line,hums) layers_of(line,hums) first_word(line,hums) layers_fault(line,hums,layers)",
    "listing": """hushed_words(line,span) count_hushed(line,span) hushed_number(line,span,word)
        hushed_by_number(line,span,number) least_crossed(line,span)""",
    "further": """hums_for(plan,outside,between) further_word(plan,outside,between) all_further(plan,outside,between)
        count_further(plan,outside,between) is_full(plan,outside,between)""",
    "planlists": """all_plans(line,outside,between,pairs) count_plans(line,outside,between,pairs)
        most_pairs(line,outside,between) full_plans(line,outside,between)""",
    "bounds": """pairs_bound(count,outside,between) right_blocks(plan,low,high) rank_of(line,hums)
        plan_bar(count,degree)""",
    "splits": "split_hum(plan,hum) unheard_of(plan,hum)",
    "doubling": """double_word(word) double_line(line,step) join_words(word,other,*,crossed=False) sum_rows(word)
        binomial_noises(word,many)""",
    "nesting": """nest_words(outer,inner) nest_lines(outer,inner,size) nest_hums(outer,inner)
        nest_spans(outer,inner) nest_plans(outer,inner,size) weakest_order(plan)""",
    "mirrors": "mirror_of(word) mirrors_itself(line) mirrored_words(count,*,turned=False)",
    "folding": "fold_lengths(word) unfold_word(word,length) unfoldings_of(word) is_prime_word(word)",
    "linking": """check_links(links) links_of(word) exchange_links(links,place) nest_links(links) all_links(word)
        way_between(links,other) way_fault(links,other,way)""",
    "primes": "prime_words(count) count_primes(length)",
    "built": "shortest_for(order)",
    "patterns": """repeat_pattern(pattern,repeats) product_pattern(one,other) least_pattern(pattern)
        unlike_at(one,other) steady_patterns(period,bound) count_steady(period,bound)""",
    "forms": """noise_at(pattern,power,extent) form_at(form,repeats) form_of(pattern,power,rest)
        form_fault(pattern,power,rest,form)""",
    "extents": "hushed_extents(pattern,degree) plan_extents(patterns,outside,between) order_at(pattern,extent)",
    "louds": """quiet_extents(pattern,power,bound) loud_from(pattern,power,bound)
        greatest_upto(pattern,power,extent)""",
    "ties": "steps_noise(pattern,extent) tied_noise(pattern,extent)",
    "layouts": """spot_couples(spots) still_layout(spots,start,sections) turning_layout(spots,pairs,sections)
        moves_of(layout) check_legs(layout,legs) exchanged_layout(layout,pole,legs)""",
    "strengths": """spot_sums(plan,layout,pair,hum) couple_sums(plan,layout,pair,other,hum)
        spot_noise(plan,layout,pair,hum,strengths) couple_noise(plan,layout,pair,other,hum,strengths)
        arm_heard(plan,layout,outside,between) heard_strengths(layout,heard) group_heard(plan,layout,outside,groups)
        loudest_strengths(plan,layout,pair,hum,lows,highs)""",
    "armwords": """arm_words(line,layout,pair,outside) count_arm_words(line,layout,pair,outside)
        lone_spot(line,layout,pair,outside)""",
    "talks": """stand_sums(line,layout,pair,hum) talk_noise(line,layout,legs,hum,strengths)
        further_talk(line,layout,legs,outside) talk_lots(line,layout,outside)
        talk_reaches(plan,layout,legs,pair,between) swap_word(layout) least_talk(line,spots,outside)""",
    "turning": "finer_line(line,parts) finer_row(row,parts) finer_span(span,parts) turn_plan(plan,spots)",
    "roundabouts": """roundabout_of(line,one,other) by_way(plan,first,way,last) round_table(plan,first,last)
        first_round(plan)""",
    "slacks": """check_slacks(line,slacks) check_shifts(line,shifts) shifted_line(line,shifts)
        slack_range(line,word,hum,slacks) shifts_meeting(line,word,hum,slacks,amount)""",
    "shifts": """hushing_shifts(line,words,slacks) hushing_fault(line,words,slacks,told) least_slack(line,words)
        slack_fault(line,words,told)""",
    "wrongs": """wrong_word(line,word,poles) wrong_lots(line,most) check_tests(line,tests) read_tests(line,word,tests)
        lots_that_fit(line,word,tests,readings,most) sure_wrong(line,word,tests,readings,most)
        sure_right(line,word,tests,readings,most) telling_hum(line) word_of_reading(line,reading)""",
    "telling": """told_apart(line,word,tests,most) least_pools(line,word,tests,most) best_tree(line,word,tests,most)
        follow_tree(tree,readings)""",
    "changes": "check_changes(plan,changes) plan_after(plan,changes)",
    "wishes": "check_wishes(line,wishes) first_broken(plan,wishes) grants_all(plan,wishes)",
    "nearest": "nearest_hushed(line,word,span)",
    "mends": """find_mends(plan,pool,wishes) mends_fault(plan,pool,wishes,told)
        find_spoilers(plan,pool,wishes)""",
}
GENERATORS = {"words": ["each_word"], "listing": ["hushed_words"], "further": ["all_further"],
              "planlists": ["all_plans", "full_plans"], "mirrors": ["mirrored_words"], "linking": ["all_links"],
              "primes": ["prime_words"], "patterns": ["steady_patterns"], "armwords": ["arm_words"]}
CLASSES = {
    "lines": {"Line(lengths,marks)": """cut_section(self,section,share,mark) backward(self) grown(self,size)
        shifted(self,step) joined_to(self,other,gap) even(count) __len__(self) __eq__(self,other)"""},
    "spans": {"Span(hums)": "__len__(self) __iter__(self) __eq__(self,other)", "Heard(hum,noise)": ""},
    "sames": {"Made(shares)": "", "Apart(row)": ""},
    "balances": {"Balance(lengths)": "", "Loud(shares,hum)": ""},
    "limits": {"Clash(first,second)": "", "Limits(mosts,steps)": """alike(sections,most,step)
        with_most(self,section,most) with_step(self,pole,step) grown(self,factor) both(self,other) backward(self)
        __len__(self) __eq__(self,other)"""},
    "loudest": {"Greatest(amount,hum,sums)": "", "Endless(hum)": ""},
    "quietest": {"Quiet(amount,words)": ""},
    "courses": {"Course(corners,slope)": "amount_at(self,factor)"},
    "plans": {"Plan(line,words)": """product_at(self,pair,other) with_word(self,word) without(self,pair)
        __len__(self) __iter__(self) __eq__(self,other)""",
              "Outside(pair,hum,noise)": "", "Between(pair,other,hum,noise)": ""},
    "layers": {"Layers(layers)": ""},
    "splits": {"Split(level,shares,rest)": ""},
    "chains": {"Chain(links)": """sign_at(self,section) running_at(self,section) noises_to(self,many)
        widest_sums(self) written(self) nest_around(self,inner) __len__(self) __iter__(self) __eq__(self,other)"""},
    "patterns": {"Pattern(signs)": """sign_at(self,section) word_at(self,extent) __len__(self)
        __eq__(self,other)"""},
    "extents": {"Extents(period,rows)": "holds(self,extent) next_after(self,extent) many_upto(self,extent)"},
    "louds": {"QuietExtents(period,rows)": "holds(self,extent) last_extent(self)", "Reached(amount,extent)": ""},
    "layouts": {"Layout(spots,places)": "__len__(self) __eq__(self,other)"},
    "strengths": {"SpotHeard(pair,spot,hum,noise)": "", "CoupleHeard(pair,other,spots,hum,noise)": "",
                  "GroupHeard(pair,group,hum,noise)": "",
                  "StrengthRange(least,greatest,least_strengths,greatest_strengths)": ""},
    "talks": {"TalkHeard(spot,hum,difference)": "", "ReachHeard(spots,hum,difference)": ""},
    "turning": {"Turned(plan,layout)": ""},
    "roundabouts": {"Round(first,way,last,amount)": ""},
    "slacks": {"ShiftRange(low,high,low_shifts,high_shifts)": ""},
    "shifts": {"Hushing(shifts)": "", "Fixed(shares)": "", "Least(slack,shifts,shares)": ""},
    "telling": {"Alike(one,other)": "", "Ask(test,branches)": "", "Found(lot)": "", "Stuck(lots)": ""},
    "wishes": {"Lacking(pair)": "", "Broken(index,why)": ""},
    "nearest": {"Nearest(many,words)": ""},
    "mends": {"Mends(least,losses)": "", "Spoiler(choice,index)": ""},
    "bench": {"Bench(plan)": """make(self,change) make_all(self,*changes) take_back(self) grants(self,*wishes)
        trial(self) tried(self,work) __len__(self) __iter__(self)"""},
}
PROPERTIES = {"lines": {"Line": ["is_even"]}, "spans": {"Span": ["sections"]},
              "limits": {"Limits": ["free_poles", "free_stretches"]},
              "chains": {"Chain": ["sections", "chain_order", "crossing_count", "chain_noise"]},
              "mends": {"Mends": ["needed"]}}
STATIC = {"Line": ["even"], "Limits": ["alike"]}


def entries(text):
    for entry in text.split():
        yield entry.split("(")[0], "(" + entry.split("(", 1)[1].replace(",", ", ").replace(", )", ",)")


def module_of(name):
    return importlib.import_module("hushedwires." + name)


class InterfaceTest(unittest.TestCase):
    def test_functions(self):
        for module, text in FUNCTIONS.items():
            for name, arguments in entries(text):
                function = getattr(module_of(module), name)
                self.assertEqual(str(inspect.signature(function)), arguments, name)
                self.assertEqual(function.__module__, "hushedwires." + module)

    def test_classes(self):
        for module, told in CLASSES.items():
            for entry, methods in told.items():
                (name, arguments), = entries(entry)
                one = getattr(module_of(module), name)
                self.assertEqual(str(inspect.signature(one)), arguments, name)
                self.assertEqual(one.__module__, "hushedwires." + module)
                self.assertIs("__eq__" in vars(one), name != "Bench", name)
                for method, taken in entries(methods):
                    self.assertIn(method, vars(one))
                    self.assertEqual(str(inspect.signature(getattr(one, method))), taken, method)
                    self.assertEqual(isinstance(vars(one)[method], staticmethod), method in STATIC.get(name, ()))

    def test_properties(self):
        for module, told in PROPERTIES.items():
            for name, properties in told.items():
                for one in properties:
                    self.assertIsInstance(vars(getattr(module_of(module), name))[one], property)

    def test_generators(self):
        for module, text in FUNCTIONS.items():
            for name, _ in entries(text):
                function = getattr(module_of(module), name)
                self.assertEqual(inspect.isgeneratorfunction(function), name in GENERATORS.get(module, ()), name)
        self.assertEqual(sum(map(len, GENERATORS.values())), 10)

    def test_constants(self):
        for name in ("ZERO", "ONE", "HALF"):
            self.assertIs(type(getattr(module_of("ratios"), name)), tuple)


if __name__ == "__main__":
    unittest.main()
