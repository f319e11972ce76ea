"""Rewriting of plans into plans that give the same with less work."""

from labelframes.errors import DoesNotApply, InvalidSteps
from labelframes.fitting import schema_within
from labelframes.forms import check_plan, plan_fault
from labelframes.paths import check_path, is_path, node_within, paths_of, placed
from labelframes.rules import ACTIONS
from labelframes.values import check_schemas, is_pair

RULES = (
    "where-where",
    "where-pick",
    "where-rename",
    "where-with",
    "where-sort",
    "where-stack",
    "where-left",
    "where-right",
    "where-group",
    "where-first",
    "where-melt",
    "where-true",
    "pick-pick",
    "pick-all",
    "pick-with",
    "pick-sort",
    "sort-sort",
    "slice-slice",
    "slice-down",
    "first-first",
    "fold",
)


def rules_at(plan, path, schemas):
    """The tuple of the rules that apply at a node of a plan."""
    check_plan(plan)
    check_path(path, plan)
    check_schemas(schemas)
    schema_within(plan, schemas)
    return tuple([rule for rule in RULES if plan_behind(plan, (rule, path), schemas) is not None])


def rewritten(plan, steps, schemas):
    """The plan behind these steps, one after another."""
    check_plan(plan)
    check_steps(steps)
    check_schemas(schemas)
    schema_within(plan, schemas)
    other = plan
    for index, step in enumerate(steps):
        other = plan_behind(other, step, schemas)
        if other is None:
            raise DoesNotApply(index)
    return other


def best(plan, schemas):
    """A plan at no node of which any rule applies, and the steps that lead to it, as a pair (other, steps)."""
    check_plan(plan)
    check_schemas(schemas)
    schema_within(plan, schemas)
    other = plan
    steps = []
    step = next_step(other, schemas)
    while step is not None:
        other = plan_behind(other, step, schemas)
        steps.append(step)
        step = next_step(other, schemas)
    return other, tuple(steps)


def check_steps(steps):
    """Raises InvalidSteps if a value is not a tuple of pairs of a rule and a path."""
    if not isinstance(steps, tuple):
        raise InvalidSteps(None)
    for index, step in enumerate(steps):
        if not is_pair(step) or not is_rule(step[0]) or not is_path(step[1]):
            raise InvalidSteps(index)


def is_rule(value):
    """Whether a value is the name of a rule."""
    return isinstance(value, str) and value in RULES


def plan_behind(plan, step, schemas):
    """The plan behind a step, or None if the step does not apply."""
    rule, path = step
    node = node_within(plan, path)
    if node is None:
        return None
    action = ACTIONS[rule]
    replacement = action(node, schemas)
    if replacement is None:
        return None
    changed = placed(plan, path, replacement)
    return changed if plan_fault(changed) is None else None


def next_step(plan, schemas):
    """A step that applies to a plan, or None if there is none."""
    for path in paths_of(plan):
        for rule in RULES:
            if plan_behind(plan, (rule, path), schemas) is not None:
                return (rule, path)
    return None
