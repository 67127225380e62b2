"""The tests' own reckoning with layouts, section by section, and drawn layouts and plans."""

from fractions import Fraction
from itertools import combinations, permutations, product

from hushedwires.layouts import Layout
from hushedwires.lines import Line
from hushedwires.plans import Plan
from hushedwires.spans import Span
from tests.reckon import fraction, random_line, random_ratio, random_word, ratio, ratios


def couples(spots):
    return list(combinations(range(spots), 2))


def spot_sum(line, signs, layout, pair, hum, spot):
    return sum((fraction(line.lengths[k]) * signs[k] * fraction(hum[k])
                for k in range(len(line)) if layout.places[k][pair] == spot), Fraction(0))


def couple_sum(line, signs, layout, pair, other, hum, couple):
    return sum((fraction(line.lengths[k]) * signs[k] * fraction(hum[k]) for k in range(len(line))
                if {layout.places[k][pair], layout.places[k][other]} == set(couple)), Fraction(0))


def product_of_words(word, other):
    return tuple(sign * against for sign, against in zip(word, other))


def stand_sum(line, layout, pair, hum, spot):
    return spot_sum(line, (1,) * len(line), layout, pair, hum, spot)


def all_rows(spots, pairs):
    return list(permutations(range(spots), pairs))


def all_layouts(spots, pairs, sections):
    for places in product(all_rows(spots, pairs), repeat=sections):
        yield Layout(spots, places)


def random_layout(source, spots, pairs, sections, stay=0.6):
    rows = [source.choice(all_rows(spots, pairs))]
    while len(rows) < sections:
        rows.append(rows[-1] if source.random() < stay else source.choice(all_rows(spots, pairs)))
    return Layout(spots, rows)


def small_span(source, count, most=2):
    """A span under which sums are often 0."""
    return Span([ratios(*[source.choice((0, 0, 1, 1, -1)) for _ in range(count)])
                 for _ in range(source.randint(1, most))])


def random_arm(source, most=4, long=8):
    """A plan and a layout of its pairs, with sums that are often 0."""
    spots = source.randint(2, 4)
    pairs = source.randint(1, min(spots, most))
    count = source.randint(1, long)
    line = random_line(source, count)
    if source.random() < 0.7:
        line = Line.even(count)
    plan = Plan(line, [random_word(source, count) for _ in range(pairs)])
    return plan, random_layout(source, spots, pairs, count, source.choice((0.2, 0.6, 1)))


def random_strengths(source, count):
    return [random_ratio(source) for _ in range(count)]


def weighed(strengths, sums):
    return ratio(sum((fraction(one) * there for one, there in zip(strengths, sums)), Fraction(0)))
