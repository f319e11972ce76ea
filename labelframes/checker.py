"""The checker: whether a certificate shows that a claim about plans is true.

It shares no code with what makes the certificates: no mistake there makes it accept what is not true.
"""

from labelframes.verify_forms import is_plan
from labelframes.verify_rows import counts_of_rows
from labelframes.verify_rules import plan_behind
from labelframes.verify_schemas import schema_in
from labelframes.verify_simple import is_mapping, simple_query
from labelframes.verify_values import are_rows, are_schemas, is_one_of, is_tuple, is_tuple_of


def accepts(claim, certificate):
    """Whether a certificate shows that a claim is true; both may be anything."""
    if not is_tuple_of(claim, 4) or not is_one_of(claim[0], ("rewritten", "alike", "unlike")):
        return False
    word, plan, other, schemas = claim
    if not is_plan(plan) or not is_plan(other) or not are_schemas(schemas):
        return False
    known = dict(schemas)
    columns = schema_in(plan, known)
    others = schema_in(other, known)
    if columns is None or others is None:
        return False
    if word == "rewritten":
        return leads_to(plan, other, known, certificate)
    one, two = simple_query(plan, known), simple_query(other, known)
    if columns != others or one is None or two is None:
        return False
    if word == "alike":
        return are_alike(one, two, certificate)
    if not are_data(certificate, schemas):
        return False
    data = {pair[0]: rows for pair, rows in zip(schemas, certificate)}
    return counts_of_rows(plan, known, data) != counts_of_rows(other, known, data)


def leads_to(plan, other, known, steps):
    """Whether a value is a tuple of steps that lead from a plan to the other one."""
    if not is_tuple(steps):
        return False
    present = plan
    for step in steps:
        present = plan_behind(present, step, known)
        if present is None:
            return False
    return present == other


def are_alike(one, other, mapping):
    """Whether a value shows that two queries correspond."""
    if one.has_two_values() or other.has_two_values():
        return one.has_two_values() and other.has_two_values() and is_tuple_of(mapping, 0)
    return is_mapping(mapping, one, other)


def are_data(value, schemas):
    """Whether a value is a tuple of rows for each of the sources."""
    return is_tuple_of(value, len(schemas)) and all([are_rows(rows, pair[1]) for rows, pair in zip(value, schemas)])
