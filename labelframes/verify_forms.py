"""Which values are expressions and plans, as the checker sees it."""

from labelframes.verify_values import KINDS, are_different_names, is_name, is_number, is_of_kind, is_one_of
from labelframes.verify_values import is_string, is_tuple, is_tuple_of

# For each operation how many parts it has.
PART_COUNTS = {
    "add": 2,
    "sub": 2,
    "mul": 2,
    "div": 2,
    "mod": 2,
    "glue": 2,
    "size": 1,
    "eq": 2,
    "lt": 2,
    "le": 2,
    "and": 2,
    "or": 2,
    "not": 1,
    "there": 1,
    "if": 3,
    "else": 2,
}
FUNCTIONS = ("count", "there", "sum", "min", "max")
GROUP_FUNCTIONS = ("count", "there", "sum", "min", "max", "first", "last")


def is_expression(value):
    """Whether a value is an expression."""
    return 1 <= expression_nodes(value, 8) <= 40


def is_plan(value):
    """Whether a value is a plan."""
    return 1 <= plan_nodes(value, 12) <= 30


def begins_with_word(value):
    """Whether a value is a tuple whose first element is a string."""
    return is_tuple(value) and len(value) > 0 and is_string(value[0])


def expression_nodes(value, levels):
    """How many nodes an expression of at most so many levels has; 0 if a value is none, but for the number of nodes."""
    if levels == 0 or not begins_with_word(value):
        return 0
    match value:
        case ["col", name]:
            return 1 if is_name(name) else 0
        case ["value", kind, worth]:
            return 1 if is_one_of(kind, KINDS) and is_of_kind(worth, kind) else 0
    if PART_COUNTS.get(value[0]) != len(value) - 1:
        return 0
    counts = [expression_nodes(part, levels - 1) for part in value[1:]]
    return 0 if 0 in counts else 1 + sum(counts)


def inputs_in(plan):
    """The tuple of the inputs of a plan."""
    if plan[0] == "scan":
        return ()
    return plan[1:3] if plan[0] in ("stack", "join") else plan[1:2]


def nodes_in(plan):
    """The list of a plan and of the plans inside of it."""
    return [plan, *[node for inner in inputs_in(plan) for node in nodes_in(inner)]]


def plan_nodes(value, levels):
    """How many nodes a plan of at most so many levels has; 0 if a value is none, but for the number of nodes."""
    if levels == 0 or not begins_with_word(value) or not has_fields(value):
        return 0
    counts = [plan_nodes(inner, levels - 1) for inner in inputs_in(value)]
    return 0 if 0 in counts else 1 + sum(counts)


def has_fields(node):
    """Whether a tuple that begins with a word is of one of the forms of plans, if its inputs are not looked at."""
    match node:
        case ["scan", source]:
            return is_name(source)
        case ["where", _, expression]:
            return is_expression(expression)
        case ["pick" | "first", _, names]:
            return are_some_names(names)
        case ["rename", _, old, new]:
            return is_name(old) and is_name(new)
        case ["with", _, name, expression]:
            return is_name(name) and is_expression(expression)
        case ["sort", _, keys]:
            return are_keys(keys)
        case ["slice", _, start, count]:
            return is_amount(start) and (count is None or is_amount(count))
        case ["stack", _, _]:
            return True
        case ["join", _, _, pairs, how]:
            return are_pairs(pairs) and is_one_of(how, ("inner", "left", "semi", "anti"))
        case ["group", _, names, sums]:
            return are_some_names(names) and are_sums(sums)
        case ["running", _, new, function, name, by]:
            return is_name(new) and is_one_of(function, FUNCTIONS) and is_name(name) and are_different_names(by)
        case ["melt", _, keep, names, label, name]:
            return are_melted(keep, names) and is_name(label) and is_name(name)
        case _:
            return False


def is_amount(value):
    """Whether a value is an integer from 0 on."""
    return is_number(value) and value >= 0


def are_some_names(value):
    """Whether a value is a tuple of one or more different names."""
    return are_different_names(value) and len(value) > 0


def are_keys(value):
    """Whether a value may be the keys of a "sort"."""
    if not is_tuple(value) or not all([is_tuple_of(key, 2) for key in value]):
        return False
    return are_some_names(tuple([name for name, _ in value])) and all([up is True or up is False for _, up in value])


def are_pairs(value):
    """Whether a value may be the pairs of a "join"."""
    if not is_tuple(value) or not all([is_tuple_of(pair, 2) for pair in value]):
        return False
    return are_some_names(tuple([one for one, _ in value])) and are_some_names(tuple([other for _, other in value]))


def are_sums(value):
    """Whether a value may be the sums of a "group"."""
    if not is_tuple(value) or not all([is_tuple_of(entry, 3) for entry in value]):
        return False
    if not all([is_one_of(function, GROUP_FUNCTIONS) for _, function, _ in value]):
        return False
    return all([is_name(new) and is_name(name) for new, _, name in value])


def are_melted(keep, names):
    """Whether values may be what a "melt" keeps, and the names that it melts."""
    return are_different_names(keep) and are_some_names(names) and are_different_names((*keep, *names))
