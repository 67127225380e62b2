"""Chains: words nested of up to eight words, too long to be written."""

from math import factorial

from hushedwires.doubling import binomial_sums, sum_rows
from hushedwires.errors import BadChain, BadCount, BadWord, NoSection, TooMany
from hushedwires.lines import MOST_SECTIONS
from hushedwires.ratios import is_row, is_whole, power_of
from hushedwires.words import check_signs, crossings_of

MOST_LINKS = 8


class Chain:
    """The word nested of 1 to 8 words, the outermost first."""

    def __init__(self, links):
        if not is_row(links, 1, MOST_LINKS):
            raise BadChain(0, "many")
        self.links = tuple([_checked_link(index, link) for index, link in enumerate(links)])

    def __len__(self):
        return len(self.links)

    def __iter__(self):
        return iter(self.links)

    def __eq__(self, other):
        return isinstance(other, Chain) and self.links == other.links

    @property
    def sections(self):
        """How many signs the word has."""
        return _sections_of(self.links)

    @property
    def chain_order(self):
        """The order of the word on the even line."""
        return sum([_order_of(link) for link in self.links])

    @property
    def chain_noise(self):
        """The noise of the word on the even line under its order as a power of the marks."""
        return (_noise_of(self.links), 1)

    @property
    def crossing_count(self):
        """How many crossings the word has."""
        return _crossings_in(self.links)

    def sign_at(self, section):
        """The sign of the word at a section."""
        if not is_whole(section, 0, _sections_of(self.links) - 1):
            raise NoSection(section)
        return _sign_at(self.links, section)

    def running_at(self, section):
        """The sum of so many signs, from the first one on."""
        if not is_whole(section, 0, _sections_of(self.links)):
            raise NoSection(section)
        running = 0
        total = 1
        for link in self.links[::-1]:
            place = section % len(link)
            section = section // len(link)
            running = sum(link[:place]) * total + link[place] * running
            total = total * sum(link)
        # behind the last section one whole word is left, elsewhere none
        return running + section * total

    def noises_to(self, many):
        """The noises on the even line under the hums "k over j", for so many j from 0 on."""
        if not is_whole(many, 1, MOST_SECTIONS):
            raise BadCount()
        noises = [1] + [0] * (many - 1)
        stride = 1
        for link in self.links[::-1]:
            sums = binomial_sums(link, many, stride)
            noises = [_mixed_sum(sums, noises, lower) for lower in range(many)]
            stride = stride * len(link)
        return tuple([(noise, 1) for noise in noises])

    def widest_sums(self):
        """The least and the greatest sum of first signs."""
        least = 0
        greatest = 1
        total = 1
        for link in self.links[::-1]:
            befores = [total * sum(link[:place]) for place in range(len(link))]
            ups = [before for before, sign in zip(befores, link) if sign == 1]
            downs = [before for before, sign in zip(befores, link) if sign == -1]
            reached = [before + one for before in ups for one in (least, greatest)]
            reached = reached + [before - one for before in downs for one in (least, greatest)]
            least = min(reached)
            greatest = max(reached)
            total = total * sum(link)
        return least, greatest

    def written(self):
        """The word itself."""
        count = _sections_of(self.links)
        if count > MOST_SECTIONS:
            raise TooMany(MOST_SECTIONS)
        return tuple([_sign_at(self.links, section) for section in range(count)])

    def nest_around(self, inner):
        """The chain of these links and, inside, those of another chain."""
        return Chain(self.links + inner.links)


def _checked_link(index, link):
    try:
        return check_signs(link)
    except BadWord:
        raise BadChain(index, "word") from None


def _sections_of(links):
    count = 1
    for link in links:
        count = count * len(link)
    return count


def _order_of(link):
    return len(sum_rows(link)) - 1


def _noise_of(links):
    noise = 1
    stride = 1
    order = 0
    for link in links[::-1]:
        height = _order_of(link)
        # the noise under "k over order" is the last sum, turned for an odd order
        noise = noise * sum(sum_rows(link)[-1]) * power_of((-stride, 1), height)[0]
        stride = stride * len(link)
        order = order + height
    return noise * factorial(order)


def _crossings_in(links):
    many = 0
    last = 1
    for link in links[::-1]:
        own = len(crossings_of(link))
        # behind an inner - at its end a pole is crossed just where the outer word is not
        many = len(link) * many + (own if last == 1 else len(link) - 1 - own)
        last = last * link[-1]
    return many


def _sign_at(links, section):
    sign = 1
    for link in links[::-1]:
        sign = sign * link[section % len(link)]
        section = section // len(link)
    return sign


def _mixed_sum(sums, noises, lower):
    # "a + b over j" is the sum of "a over i" * "b over j - i"
    return sum([sums[place] * noises[lower - place] for place in range(lower + 1)])
