"""The forms of expressions and plans: which tuples are one, and the errors if a value is none.

An expression or a plan is a tuple of a word and of fields. The two tables below tell for each word which fields
follow; `is_field` tells what may stand in them.
"""

from labelframes.errors import InvalidExpression, InvalidPlan
from labelframes.values import is_count, is_kind, is_name, is_pair, is_value

EXPRESSION_NODES = 40
EXPRESSION_LEVELS = 8
PLAN_NODES = 30
PLAN_LEVELS = 12

EXPRESSIONS = {
    "col": ("name",),
    "value": ("kind", "constant"),
    "add": ("part", "part"),
    "sub": ("part", "part"),
    "mul": ("part", "part"),
    "div": ("part", "part"),
    "mod": ("part", "part"),
    "glue": ("part", "part"),
    "size": ("part",),
    "eq": ("part", "part"),
    "lt": ("part", "part"),
    "le": ("part", "part"),
    "and": ("part", "part"),
    "or": ("part", "part"),
    "not": ("part",),
    "there": ("part",),
    "if": ("part", "part", "part"),
    "else": ("part", "part"),
}

PLANS = {
    "scan": ("name",),
    "where": ("plan", "expression"),
    "pick": ("plan", "names"),
    "rename": ("plan", "name", "name"),
    "with": ("plan", "name", "expression"),
    "sort": ("plan", "keys"),
    "slice": ("plan", "number", "limit"),
    "first": ("plan", "names"),
    "stack": ("plan", "plan"),
    "join": ("plan", "plan", "pairs", "how"),
    "group": ("plan", "names", "sums"),
    "running": ("plan", "name", "running", "name", "any names"),
    "melt": ("plan", "any names", "names", "name", "name"),
}

HOWS = ("inner", "left", "semi", "anti")
RUNNING_FUNCTIONS = ("count", "there", "sum", "min", "max")
GROUP_FUNCTIONS = ("count", "there", "sum", "min", "max", "first", "last")


def fields_of(node, inner):
    """The fields behind the word of a node, or None if there are no such word and so many fields.

    `inner` is the field in which nodes of the same family stand: "part" in expressions, "plan" in plans.
    """
    if not isinstance(node, tuple) or len(node) == 0 or not isinstance(node[0], str):
        return None
    fields = EXPRESSIONS.get(node[0]) if inner == "part" else PLANS.get(node[0])
    if fields is None or len(fields) != len(node) - 1:
        return None
    return fields


def has_form(node, inner):
    """Whether a node is of one of the forms; the nodes inside of it may be anything."""
    fields = fields_of(node, inner)
    if fields is None:
        return False
    if not all([is_field(field, item) for field, item in zip(fields, node[1:])]):
        return False
    if node[0] == "value":
        return is_value(node[1], node[2])
    if node[0] == "melt":
        return are_names(node[2] + node[3])
    return True


def nodes_inside(node, inner):
    """The list of the nodes of the same family that stand in a node."""
    return [item for field, item in zip(fields_of(node, inner), node[1:]) if field == inner]


def nodes_of(tree, inner):
    """The list of a tree and of all nodes inside of it, each before those inside of it."""
    deeper = [node for item in nodes_inside(tree, inner) for node in nodes_of(item, inner)]
    return [tree, *deeper]


def parts_of(expression):
    """The list of an expression and of all expressions inside of it."""
    return nodes_of(expression, "part")


def steps_of(plan):
    """The list of a plan and of all plans inside of it."""
    return nodes_of(plan, "plan")


def inputs_of(plan):
    """The list of the inputs of a plan."""
    return nodes_inside(plan, "plan")


def columns_within(expression):
    """The list of the names of the columns of an expression, each as often as it stands there."""
    return [part[1] for part in parts_of(expression) if part[0] == "col"]


def first_fault(tree, inner, most_nodes, most_levels):
    """The path to the first node of none of the forms, or () if only a limit is exceeded, or None."""
    # Not by recursion: what is passed may be deeper than any limit.
    waiting = [(tree, ())]
    nodes = 0
    levels = 0
    while len(waiting) > 0:
        node, path = waiting.pop()
        if not has_form(node, inner):
            return path
        nodes += 1
        levels = max(levels, len(path) + 1)
        inside = nodes_inside(node, inner)
        for k in reversed(range(len(inside))):
            waiting.append((inside[k], path + (k,)))
    return () if nodes > most_nodes or levels > most_levels else None


def expression_fault(value):
    """The path to the first wrong part of what should be an expression, or None if it is one."""
    return first_fault(value, "part", EXPRESSION_NODES, EXPRESSION_LEVELS)


def plan_fault(value):
    """The path to the first wrong node of what should be a plan, or None if it is one."""
    return first_fault(value, "plan", PLAN_NODES, PLAN_LEVELS)


def check_expression(expression):
    """Raises InvalidExpression if a value is not an expression."""
    path = expression_fault(expression)
    if path is not None:
        raise InvalidExpression(path)


def check_plan(plan):
    """Raises InvalidPlan if a value is not a plan."""
    path = plan_fault(plan)
    if path is not None:
        raise InvalidPlan(path)


def is_field(field, item):
    """Whether an item may stand in a field; what is judged elsewhere may be anything here."""
    if field == "name":
        return is_name(item)
    if field == "any names":
        return are_names(item)
    if field == "names":
        return are_names(item) and len(item) > 0
    if field == "kind":
        return is_kind(item)
    if field == "expression":
        return expression_fault(item) is None
    if field == "number":
        return is_count(item)
    if field == "limit":
        return item is None or is_count(item)
    if field == "how":
        return is_word(item, HOWS)
    if field == "running":
        return is_word(item, RUNNING_FUNCTIONS)
    return is_table_field(field, item)


def is_table_field(field, item):
    """The same as `is_field`, for the fields with tuples of tuples."""
    if field == "keys":
        return are_keys(item)
    if field == "pairs":
        return are_pairs(item)
    if field == "sums":
        return isinstance(item, tuple) and all([is_sum(entry) for entry in item])
    return True


def is_word(value, words):
    """Whether a value is one of these words."""
    return isinstance(value, str) and value in words


def are_names(value):
    """Whether a value is a tuple of different names."""
    if not isinstance(value, tuple) or not all([is_name(name) for name in value]):
        return False
    return len(set(value)) == len(value)


def are_all_pairs(value):
    """Whether a value is a tuple of one or more pairs of anything."""
    return isinstance(value, tuple) and len(value) > 0 and all([is_pair(pair) for pair in value])


def are_keys(value):
    """Whether a value is what stands in a "sort": names and directions."""
    if not are_all_pairs(value) or not all([isinstance(pair[1], bool) for pair in value]):
        return False
    return are_names(tuple([pair[0] for pair in value]))


def are_pairs(value):
    """Whether a value is what stands in a "join": pairs of names, none of which comes twice on its side."""
    if not are_all_pairs(value):
        return False
    return are_names(tuple([pair[0] for pair in value])) and are_names(tuple([pair[1] for pair in value]))


def is_sum(value):
    """Whether a value is what stands in the sums of a "group": a new name, a function, a name."""
    if not isinstance(value, tuple) or len(value) != 3:
        return False
    return is_name(value[0]) and is_word(value[1], GROUP_FUNCTIONS) and is_name(value[2])
