"""Claims about plans, with certificates that the checker accepts."""

from labelframes.rewriting import best
from labelframes.simple import correspondence, difference


def certify_best(plan, schemas):
    """The claim that the plan that `best` returns is a rewriting of a plan, and the steps."""
    other, steps = best(plan, schemas)
    return ("rewritten", plan, other, schemas), steps


def certify_alike(plan, other, schemas):
    """The claim that two simple plans give the same rows as often, or that they do not, and the mapping or the data."""
    mapping = correspondence(plan, other, schemas)
    if mapping is not None:
        return ("alike", plan, other, schemas), mapping
    house = difference(plan, other, schemas)
    return ("unlike", plan, other, schemas), tuple([house[name].rows for name, _ in schemas])
