"""A bench: it holds a plan that changes."""

from hushedwires.changes import check_change, plan_after
from hushedwires.errors import BadChange, NothingDone
from hushedwires.plans import Plan
from hushedwires.wishes import grants_all


class Trial:
    """For one block: behind it, plan and log of a bench are as they were at its beginning."""

    def __init__(self, bench):
        self.bench = bench

    def __enter__(self):
        bench = self.bench
        self.plan = bench.plan
        self.log = bench.log
        self.earlier = bench.earlier
        return bench

    def __exit__(self, kind, value, trace):
        bench = self.bench
        bench.plan = self.plan
        bench.log = self.log
        bench.earlier = self.earlier


class Bench:
    """A plan that changes, and the log of the changes that stand."""

    def __init__(self, plan):
        self.plan = _copy_of(plan)
        self.log = ()
        # for each change that stands the plan ahead of it
        self.earlier = ()

    def __len__(self):
        return len(self.log)

    def __iter__(self):
        return iter(self.log)

    def make(self, change):
        """Makes one change and returns the plan behind it."""
        return self.make_all(change)

    def make_all(self, *changes):
        """Makes all changes, one after the other, or none of them."""
        plans = [self.plan]
        made = []
        for index, change in enumerate(changes):
            made.append(check_change(plans[-1], index, change))
            plans.append(_plan_behind(plans[-1], index, made[-1]))
        self.plan = plans[-1]
        self.log = self.log + tuple(made)
        self.earlier = self.earlier + tuple(plans[:-1])
        return _copy_of(self.plan)

    def take_back(self):
        """Takes the last change that stands back and returns it."""
        if not self.log:
            raise NothingDone()
        change = self.log[-1]
        self.plan = self.earlier[-1]
        self.log = self.log[:-1]
        self.earlier = self.earlier[:-1]
        return change

    def grants(self, *wishes):
        """Whether the plan now grants all wishes."""
        return grants_all(self.plan, wishes)

    def trial(self):
        """An object for one block, behind which plan and log are as they were."""
        return Trial(self)

    def tried(self, work):
        """What the work returns that is done with the bench within a trial."""
        with self.trial() as held:
            return work(held)


def _copy_of(plan):
    # what is passed in or returned stays apart from the bench
    return Plan(plan.line, plan.words)


def _plan_behind(plan, index, change):
    behind = plan_after(plan, (change,))
    if behind is None:
        raise BadChange(index, "plan")
    return behind
