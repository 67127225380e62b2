"""Lists of hushed plans on short lines."""

from hushedwires.beginnings import packed_steps
from hushedwires.cliques import count_cliques, each_clique, each_full_clique, holds_clique
from hushedwires.errors import BadPairs, TooMany
from hushedwires.plans import MOST_PAIRS, Plan, asked_hums, check_asked
from hushedwires.ratios import is_whole
from hushedwires.words import word_by_number

MOST_LISTED_SECTIONS = 10
MOST_FULL_SECTIONS = 8


class Company:
    """The words of a line that are hushed outside, as numbers, and which are hushed between."""

    def __init__(self, line, outside, between):
        self.line = line
        hushed = _hushed_numbers(line, outside)
        self.numbers = [number for number, is_hushed in enumerate(hushed) if is_hushed]
        pairing = _hushed_numbers(line, between)
        # the number of a product of two words has 1 just where theirs have unlike places
        self.friends = [_friends_of(number, self.numbers, pairing) for number in self.numbers]
        self.everyone = (1 << len(self.numbers)) - 1

    def plan_of(self, places):
        """The plan with the words at these places."""
        return Plan(self.line, [word_by_number(len(self.line), self.numbers[place]) for place in places])


def _hushed_numbers(line, span):
    """For the number of each word of the line whether it is hushed."""
    steps = packed_steps(line, asked_hums(line, span))
    rows = [steps[0]]
    for step in steps[1:]:
        rows = [row + sign * step for row in rows for sign in (1, -1)]
    return [row == 0 for row in rows]


def _friends_of(number, numbers, pairing):
    friends = 0
    for place, other in enumerate(numbers):
        if other != number and pairing[number ^ other]:
            friends = friends | 1 << place
    return friends


def _check_spans(line, outside, between):
    check_asked(line, outside)
    check_asked(line, between)


def _company_for(line, outside, between, pairs):
    _check_spans(line, outside, between)
    if not is_whole(pairs, 1, MOST_PAIRS):
        raise BadPairs()
    if len(line) > MOST_LISTED_SECTIONS:
        raise TooMany(MOST_LISTED_SECTIONS)
    return Company(line, outside, between)


def _short_company(line, outside, between):
    _check_spans(line, outside, between)
    if len(line) > MOST_FULL_SECTIONS:
        raise TooMany(MOST_FULL_SECTIONS)
    return Company(line, outside, between)


def all_plans(line, outside, between, pairs):
    """All hushed ascending plans with so many pairs, ascending."""
    company = _company_for(line, outside, between, pairs)
    friends = company.friends
    everyone = company.everyone
    for places in each_clique(friends, (), everyone, pairs):
        yield company.plan_of(places)


def count_plans(line, outside, between, pairs):
    """How many hushed ascending plans with so many pairs there are."""
    company = _company_for(line, outside, between, pairs)
    return count_cliques(company.friends, company.everyone, pairs)


def most_pairs(line, outside, between):
    """The least of the hushed ascending plans with the most pairs, or None."""
    company = _short_company(line, outside, between)
    friends = company.friends
    everyone = company.everyone
    for pairs in reversed(range(1, MOST_PAIRS + 1)):
        if holds_clique(friends, everyone, pairs):
            for places in each_clique(friends, (), everyone, pairs):
                return company.plan_of(places)
    return None


def full_plans(line, outside, between):
    """The hushed ascending plans that no further word, unlike theirs, can be added to."""
    company = _short_company(line, outside, between)
    if company.everyone > 0:
        friends = company.friends
        everyone = company.everyone
        for places in each_full_clique(friends, (), everyone, MOST_PAIRS):
            yield company.plan_of(places)
