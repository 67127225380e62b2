"""The shortest words of an order on even lines."""

from hushedwires.doubling import double_word
from hushedwires.errors import BadOrder
from hushedwires.ratios import is_whole

MOST_ORDER = 4


def shortest_for(order):
    """The word of fewest signs with this order or more on the even line."""
    if not is_whole(order, 0, MOST_ORDER):
        raise BadOrder()
    word = (1,)
    for _ in range(order):
        word = double_word(word)
    return word
