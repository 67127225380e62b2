"""Lots of places of which each two are friends.

A lot of places is kept as one whole number with a binary place for each of them. The friends of
a place stand in such a number; no place is a friend of itself.
"""


def many_in(lot):
    """How many places there are in the lot."""
    return f"{lot:b}".count("1")


def first_in(lot):
    """The least place in a lot that is not empty."""
    return (lot & -lot).bit_length() - 1


def holds_clique(friends, lot, many):
    """Whether the lot holds so many places that are all friends of one another."""
    if many < 2:
        return many_in(lot) >= many
    tried = {}
    left = lot
    while many_in(left) >= many:
        place = first_in(left)
        left = left & ~(1 << place)
        # places with the same friends here are no friends of one another, so one of them is enough
        kin = friends[place] & lot
        if kin not in tried and holds_clique(friends, left & kin, many - 1):
            return True
        tried[kin] = True
    return False


def each_clique(friends, chosen, left, many):
    """The chosen places with so many more of those left, friends all; in ascending order."""
    if many == 0:
        yield chosen
        return
    while left:
        place = first_in(left)
        left = left & ~(1 << place)
        longer = chosen + (place,)
        narrowed = left & friends[place]
        fewer = many - 1
        if holds_clique(friends, narrowed, fewer):
            for clique in each_clique(friends, longer, narrowed, fewer):
                yield clique


def count_cliques(friends, left, many):
    """How many lots of so many friends, one or more, there are among those left."""
    if many == 1:
        return many_in(left)
    total = 0
    while left:
        place = first_in(left)
        left = left & ~(1 << place)
        narrowed = left & friends[place]
        if holds_clique(friends, narrowed, many - 1):
            total = total + count_cliques(friends, narrowed, many - 1)
    return total


def each_full_clique(friends, chosen, shared, many):
    """The chosen places and more, until there are so many or no friend of all is left.

    The friends that all chosen places share may be ahead of them, too; those ahead are not
    chosen any more.
    """
    if many == 0 or shared == 0:
        yield chosen
        return
    fewer = many - 1
    left = shared & ~((1 << (chosen[-1] + 1)) - 1) if chosen else shared
    while left:
        place = first_in(left)
        left = left & ~(1 << place)
        longer = chosen + (place,)
        narrowed = shared & friends[place]
        for clique in each_full_clique(friends, longer, narrowed, fewer):
            yield clique
