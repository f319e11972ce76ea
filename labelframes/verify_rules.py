"""The rules of rewriting, as the checker sees them; the plans that they change have a schema."""

from labelframes.verify_folding import folded_form
from labelframes.verify_forms import inputs_in, is_plan
from labelframes.verify_schemas import schema_in
from labelframes.verify_values import is_number, is_string, is_tuple, is_tuple_of


def plan_behind(plan, step, known):
    """The plan behind a step, or None if the step is none or does not apply."""
    if not is_tuple_of(step, 2) or not is_string(step[0]) or not is_turns(step[1]):
        return None
    changed = changed_at(plan, step[1], step[0], known)
    return changed if changed is not None and is_plan(changed) else None


def is_turns(value):
    """Whether a value is a tuple of 0 and 1."""
    return is_tuple(value) and all([is_number(turn) and turn in (0, 1) for turn in value])


def changed_at(plan, turns, rule, known):
    """The plan in which a rule has replaced the node to which these turns lead, or None."""
    if len(turns) == 0:
        return node_behind(rule, plan, known)
    inputs = inputs_in(plan)
    if turns[0] >= len(inputs):
        return None
    inner = changed_at(inputs[turns[0]], turns[1:], rule, known)
    at = turns[0] + 1
    return None if inner is None else (*plan[:at], inner, *plan[at + 1:])


def node_behind(rule, node, known):
    """The node that takes the place of another one by a rule, or None if the rule does not do that."""
    if rule == "fold":
        return folded_node(node)
    if rule in ("where-left", "where-right"):
        return where_into_join(rule, node, known)
    if rule == "pick-all":
        if node[0] != "pick" or [name for name, _ in schema_in(node[1], known)] != list(node[2]):
            return None
        return node[1]
    if rule in ("where-with", "where-group", "where-first", "where-melt"):
        return where_ahead_of_names(rule, node)
    if node[0] == "where":
        return where_ahead(rule, node)
    return other_node(rule, node)


def folded_node(node):
    """The node with its expression folded, or None if there is none, or nothing to fold."""
    if node[0] not in ("where", "with"):
        return None
    folded = folded_form(node[-1])
    return None if folded == node[-1] else (*node[:-1], folded)


def columns_in(expression):
    """The list of the names of the columns of an expression."""
    if expression[0] == "col":
        return [expression[1]]
    if expression[0] == "value":
        return []
    return [name for part in expression[1:] for name in columns_in(part)]


def asks_only_for(expression, names):
    """Whether all columns of an expression are among these names."""
    return all([name in names for name in columns_in(expression)])


def with_other_column(expression, old, new):
    """The expression in which each column `old` has become `new`."""
    if expression[0] == "value":
        return expression
    if expression[0] == "col":
        return ("col", new) if expression[1] == old else expression
    return (expression[0], *[with_other_column(part, old, new) for part in expression[1:]])


def where_into_join(rule, node, known):
    """What the two rules about a "where" behind a "join" give."""
    match [rule, node]:
        case ["where-left", ["where", ["join", one, other, pairs, how], test]]:
            names = [column[0] for column in schema_in(one, known)]
            return ("join", ("where", one, test), other, pairs, how) if asks_only_for(test, names) else None
        case ["where-right", ["where", ["join", one, other, pairs, "inner"], test]]:
            names = [column[0] for column in schema_in(one, known)]
            if any([name in names for name in columns_in(test)]):
                return None
            return ("join", one, ("where", other, test), pairs, "inner")
        case _:
            return None


def where_ahead_of_names(rule, node):
    """What the rules about a "where" give that look at the names of the node ahead of it."""
    match [rule, node]:
        case ["where-with", ["where", ["with", inner, name, expression], test]]:
            return None if name in columns_in(test) else ("with", ("where", inner, test), name, expression)
        case ["where-group", ["where", ["group", inner, names, sums], test]]:
            return ("group", ("where", inner, test), names, sums) if asks_only_for(test, names) else None
        case ["where-first", ["where", ["first", inner, names], test]]:
            return ("first", ("where", inner, test), names) if asks_only_for(test, names) else None
        case ["where-melt", ["where", ["melt", inner, keep, names, label, worth], test]]:
            return ("melt", ("where", inner, test), keep, names, label, worth) if asks_only_for(test, keep) else None
        case _:
            return None


def where_ahead(rule, node):
    """What the other rules about a "where" give."""
    match [rule, node]:
        case ["where-where", ["where", ["where", inner, first], second]]:
            return ("where", inner, ("and", first, second))
        case ["where-pick", ["where", ["pick", inner, names], test]]:
            return ("pick", ("where", inner, test), names)
        case ["where-rename", ["where", ["rename", inner, old, new], test]]:
            return ("rename", ("where", inner, with_other_column(test, new, old)), old, new)
        case ["where-sort", ["where", ["sort", inner, keys], test]]:
            return ("sort", ("where", inner, test), keys)
        case ["where-stack", ["where", ["stack", one, other], test]]:
            return ("stack", ("where", one, test), ("where", other, test))
        case ["where-true", ["where", inner, ["value", "bool", True]]]:
            return inner
        case _:
            return None


def other_node(rule, node):
    """What the rules give that are not about a "where"."""
    match [rule, node]:
        case ["pick-pick", ["pick", ["pick", inner, _], names]]:
            return ("pick", inner, names)
        case ["pick-with", ["pick", ["with", inner, name, _], names]]:
            return None if name in names else ("pick", inner, names)
        case ["pick-sort", ["pick", ["sort", inner, keys], names]]:
            return ("sort", ("pick", inner, names), keys) if all([key[0] in names for key in keys]) else None
        case ["sort-sort", ["sort", ["sort", inner, earlier], keys]]:
            return ("sort", inner, joined_keys(keys, earlier))
        case ["slice-slice", ["slice", ["slice", inner, start, count], further, most]]:
            return ("slice", inner, start + further, count_left(count, further, most))
        case ["slice-down", ["slice", ["pick" | "rename" | "with", inner, *rest], start, count]]:
            return (node[1][0], ("slice", inner, start, count), *rest)
        case ["first-first", ["first", ["first", inner, names], others]]:
            return first_of_both(inner, names, others)
        case _:
            return None


def joined_keys(keys, earlier):
    """The keys, and behind them those of the earlier ones whose names are not among them."""
    names = [key[0] for key in keys]
    return (*keys, *[key for key in earlier if key[0] not in names])


def count_left(count, further, most):
    """How many rows two "slice" leave: of `count` ones, or all if it is None, `further` are left out."""
    if count is None:
        return most
    left = count - further if count > further else 0
    return left if most is None or left < most else most


def first_of_both(inner, names, others):
    """The "first" that stands for two of them, or None if there is none."""
    if all([name in others for name in names]):
        return ("first", inner, names)
    return ("first", inner, others) if all([name in names for name in others]) else None
