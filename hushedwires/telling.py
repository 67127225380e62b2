"""Which tests tell lots of wrong poles from one another, and trees of tests that do."""

from hushedwires.errors import TooMany
from hushedwires.lots import is_part, lots_upto
from hushedwires.ratios import is_row, make_ratio
from hushedwires.words import check_word
from hushedwires.wrongs import check_most, check_tests, reading_with, whole_running, wrong_lots

MOST_TOLD_SECTIONS = 12
MOST_TREE_SECTIONS = 8


class Alike:
    """Two lots with the same readings."""

    def __init__(self, one, other):
        self.one = one
        self.other = other

    def __eq__(self, other):
        return isinstance(other, Alike) and self.one == other.one and self.other == other.other


class Found:
    """A tree for a single lot."""

    def __init__(self, lot):
        self.lot = lot
        self.depth = 0

    def __eq__(self, other):
        return isinstance(other, Found) and self.lot == other.lot


class Stuck:
    """A tree for several lots that no test parts."""

    def __init__(self, lots):
        self.lots = lots
        self.depth = 0

    def __eq__(self, other):
        return isinstance(other, Stuck) and self.lots == other.lots


class Ask:
    """A tree that begins with a test: behind each of its readings stands a tree."""

    def __init__(self, test, branches):
        self.test = test
        self.branches = branches
        self.depth = 1 + _greatest_depth(branches)

    def __eq__(self, other):
        return isinstance(other, Ask) and self.test == other.test and self.branches == other.branches


def _greatest_depth(branches):
    # a result takes whatever it is given; trees without a test have no depth
    couples = branches if isinstance(branches, (list, tuple)) else ()
    return max([0] + [couple[1].depth for couple in couples if is_row(couple, 2, 2) and isinstance(couple[1], Ask)])


class Ledger:
    """The readings that all lots have, as whole numbers, and what these are to be divided by."""

    def __init__(self, line, word, tests, most, longest):
        word = check_word(line, word)
        tests = check_tests(line, tests)
        check_most(most)
        if len(line) > longest:
            raise TooMany(longest)
        runs = [whole_running(line, word, hum) for hum in tests]
        self.bottoms = [bottom for bottom, _ in runs]
        self.lots = wrong_lots(line, most)
        self.readings = {lot: tuple([reading_with(running, lot) for _, running in runs]) for lot in self.lots}


def told_apart(line, word, tests, most):
    """None if the tests tell all lots from one another, else the first two that are Alike."""
    ledger = Ledger(line, word, tests, most, MOST_TOLD_SECTIONS)
    for lots in _parted(ledger.lots, ledger.readings):
        if len(lots) > 1:
            return Alike(lots[0], lots[1])
    return None


def _parted(lots, keys):
    """The lots parted by their keys, in order of their first ones."""
    parts = {}
    for lot in lots:
        parts[keys[lot]] = parts.get(keys[lot], ()) + (lot,)
    return list(parts.values())


def least_pools(line, word, tests, most):
    """All least pools of tests that tell all lots from one another."""
    ledger = Ledger(line, word, tests, most, MOST_TOLD_SECTIONS)
    pools = []
    for pool in lots_upto(0, len(ledger.bottoms) - 1, len(ledger.bottoms)):
        if not any([is_part(least, pool) for least in pools]) and _tells_apart(ledger, pool):
            pools.append(pool)
    return tuple(pools)


def _tells_apart(ledger, pool):
    readings = ledger.readings
    keys = {lot: tuple([readings[lot][test] for test in pool]) for lot in readings}
    return len(_parted(ledger.lots, keys)) == len(ledger.lots)


def best_tree(line, word, tests, most):
    """The tree of the least depth, also in all its branches, for all lots."""
    ledger = Ledger(line, word, tests, most, MOST_TREE_SECTIONS)
    return _tree_for(ledger, ledger.lots)


def _tree_for(ledger, lots):
    if len(lots) == 1:
        return Found(lots[0])
    best = None
    for test, bottom in enumerate(ledger.bottoms):
        parts = _parted(lots, {lot: ledger.readings[lot][test] for lot in lots})
        if len(parts) > 1:
            ascending = sorted([(ledger.readings[part[0]][test], part) for part in parts])
            tree = Ask(test, tuple([(make_ratio(reading, bottom), _tree_for(ledger, part))
                                    for reading, part in ascending]))
            if best is None or tree.depth < best.depth:
                best = tree
    return Stuck(lots) if best is None else best


def follow_tree(tree, readings):
    """The Found or Stuck to which the readings lead, or None."""
    while isinstance(tree, Ask):
        following = [branch for reading, branch in tree.branches if reading == readings[tree.test]]
        if not following:
            return None
        tree = following[0]
    return tree
