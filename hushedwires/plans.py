"""Plans: lines with the words of their pairs."""

from hushedwires.errors import BadPlan, BadWord, NoPair
from hushedwires.ratios import is_row, is_whole
from hushedwires.spans import check_span, heard_by
from hushedwires.words import check_word, product_of

MOST_PAIRS = 7


class Plan:
    """A line with 1 to 7 words, one a pair."""

    def __init__(self, line, words):
        if not is_row(words, 1, MOST_PAIRS):
            raise BadPlan(0, "many")
        self.line = line
        self.words = tuple([_word_of_pair(line, index, word) for index, word in enumerate(words)])

    def __len__(self):
        return len(self.words)

    def __iter__(self):
        return iter(self.words)

    def __eq__(self, other):
        return isinstance(other, Plan) and self.line == other.line and self.words == other.words

    def product_at(self, pair, other):
        """The product of the words of two unlike pairs."""
        check_pair(self, pair)
        check_pair(self, other)
        if pair == other:
            raise NoPair(other)
        return product_of(self.words[pair], self.words[other])

    def with_word(self, word):
        """The plan with one more pair, the last one."""
        return Plan(self.line, self.words + (word,))

    def without(self, pair):
        """The plan without one pair."""
        check_pair(self, pair)
        return Plan(self.line, self.words[:pair] + self.words[pair + 1:])


class Outside:
    """A noise of a pair's word under a told hum outside."""

    def __init__(self, pair, hum, noise):
        self.pair = pair
        self.hum = hum
        self.noise = noise

    def __eq__(self, other):
        return (isinstance(other, Outside) and self.pair == other.pair
                and self.hum == other.hum and self.noise == other.noise)


class Between:
    """A noise of the product of two pairs under a told hum between."""

    def __init__(self, pair, other, hum, noise):
        self.pair = pair
        self.other = other
        self.hum = hum
        self.noise = noise

    def __eq__(self, other):
        return (isinstance(other, Between) and self.pair == other.pair and self.other == other.other
                and self.hum == other.hum and self.noise == other.noise)


def _word_of_pair(line, index, word):
    try:
        return check_word(line, word)
    except BadWord:
        raise BadPlan(index, "word") from None


def check_pair(plan, pair):
    """The number of a pair of the plan."""
    if not is_whole(pair, 0, len(plan) - 1):
        raise NoPair(pair)
    return pair


def check_asked(line, span):
    """A span of the line, or None, which asks nothing."""
    return None if span is None else check_span(line, span)


def asked_hums(line, span):
    """The told hums of what is asked; none for None."""
    return () if check_asked(line, span) is None else span.hums


def first_heard(plan, outside, between):
    """The first noise outside or between that is not 0, or None."""
    check_asked(plan.line, outside)
    check_asked(plan.line, between)
    heard = _first_outside(plan, outside)
    return _first_between(plan, between) if heard is None else heard


def _first_outside(plan, span):
    if span is None:
        return None
    for pair, word in enumerate(plan.words):
        heard = heard_by(plan.line, word, span)
        if heard is not None:
            return Outside(pair, heard.hum, heard.noise)
    return None


def _first_between(plan, span):
    if span is None:
        return None
    for pair in range(len(plan)):
        for other in range(pair + 1, len(plan)):
            heard = heard_by(plan.line, plan.product_at(pair, other), span)
            if heard is not None:
                return Between(pair, other, heard.hum, heard.noise)
    return None


def plan_hushed(plan, outside, between):
    """Whether the plan is hushed for what is asked."""
    return first_heard(plan, outside, between) is None
