"""The rules by which a node of a plan is replaced by another one with the same schema and the same result.

Each rule is a function of a node and of the schemas with which the plan has a schema; it returns the new node, or None
if the node does not have the form of the rule or its condition does not hold. The limits are judged elsewhere.
"""

from labelframes.fitting import schema_within
from labelframes.folding import folded_within
from labelframes.forms import columns_within
from labelframes.values import names_of


def is_over(node, outer, inner):
    """Whether a node has this form, and its only or left input has the other one."""
    return node[0] == outer and node[1][0] == inner


def are_among(names, others):
    """Whether all names are among the others."""
    return all([name in others for name in names])


def swapped(node):
    """The node that has the form of the left input, with a node of the form of this one as its left input."""
    inner = node[1]
    return (inner[0], (node[0], inner[1], *node[2:]), *inner[2:])


def with_columns_renamed(expression, old, new):
    """The expression in which each column `old` is replaced by the column `new`."""
    if expression[0] == "col":
        return ("col", new if expression[1] == old else expression[1])
    if expression[0] == "value":
        return expression
    parts = [with_columns_renamed(part, old, new) for part in expression[1:]]
    return (expression[0], *parts)


def where_where(node, schemas):
    """Two "where", one behind the other, are one."""
    if not is_over(node, "where", "where"):
        return None
    return ("where", node[1][1], ("and", node[1][2], node[2]))


def where_pick(node, schemas):
    """A "where" behind a "pick" goes ahead of it."""
    return swapped(node) if is_over(node, "where", "pick") else None


def where_rename(node, schemas):
    """A "where" behind a "rename" goes ahead of it."""
    if not is_over(node, "where", "rename"):
        return None
    _, plan, old, new = node[1]
    return ("rename", ("where", plan, with_columns_renamed(node[2], new, old)), old, new)


def where_with(node, schemas):
    """A "where" behind a "with" goes ahead of it if it does not ask for the new column."""
    if not is_over(node, "where", "with") or node[1][2] in columns_within(node[2]):
        return None
    return swapped(node)


def where_sort(node, schemas):
    """A "where" behind a "sort" goes ahead of it."""
    return swapped(node) if is_over(node, "where", "sort") else None


def where_stack(node, schemas):
    """A "where" behind a "stack" goes into both of its inputs."""
    if not is_over(node, "where", "stack"):
        return None
    _, left, right = node[1]
    return ("stack", ("where", left, node[2]), ("where", right, node[2]))


def where_left(node, schemas):
    """A "where" behind a "join" goes into its left input if it asks only for columns of that."""
    if not is_over(node, "where", "join"):
        return None
    names = names_of(schema_within(node[1][1], schemas))
    return swapped(node) if are_among(columns_within(node[2]), names) else None


def where_right(node, schemas):
    """A "where" behind an inner "join" goes into its right input if it asks for no column of the left one."""
    if not is_over(node, "where", "join") or node[1][4] != "inner":
        return None
    _, left, right, pairs, how = node[1]
    names = names_of(schema_within(left, schemas))
    if any([name in names for name in columns_within(node[2])]):
        return None
    return ("join", left, ("where", right, node[2]), pairs, how)


def where_group(node, schemas):
    """A "where" behind a "group" goes ahead of it if it asks only for what tells the groups apart."""
    if not is_over(node, "where", "group") or not are_among(columns_within(node[2]), node[1][2]):
        return None
    return swapped(node)


def where_first(node, schemas):
    """A "where" behind a "first" goes ahead of it if it asks only for what tells the rows apart."""
    if not is_over(node, "where", "first") or not are_among(columns_within(node[2]), node[1][2]):
        return None
    return swapped(node)


def where_melt(node, schemas):
    """A "where" behind a "melt" goes ahead of it if it asks only for columns that are kept."""
    if not is_over(node, "where", "melt") or not are_among(columns_within(node[2]), node[1][2]):
        return None
    return swapped(node)


def where_true(node, schemas):
    """A "where" that keeps all rows is left out."""
    return node[1] if node[0] == "where" and node[2] == ("value", "bool", True) else None


def pick_pick(node, schemas):
    """Of two "pick", one behind the other, the second one is enough."""
    return ("pick", node[1][1], node[2]) if is_over(node, "pick", "pick") else None


def pick_all(node, schemas):
    """A "pick" of all columns in their sequence is left out."""
    if node[0] != "pick" or names_of(schema_within(node[1], schemas)) != node[2]:
        return None
    return node[1]


def pick_with(node, schemas):
    """A "with" is left out if its column is not picked."""
    if not is_over(node, "pick", "with") or node[1][2] in node[2]:
        return None
    return ("pick", node[1][1], node[2])


def pick_sort(node, schemas):
    """A "pick" behind a "sort" goes ahead of it if it keeps the columns of the keys."""
    if not is_over(node, "pick", "sort") or not are_among([name for name, _ in node[1][2]], node[2]):
        return None
    return swapped(node)


def sort_sort(node, schemas):
    """Two "sort", one behind the other, are one."""
    if not is_over(node, "sort", "sort"):
        return None
    names = [name for name, _ in node[2]]
    return ("sort", node[1][1], (*node[2], *[key for key in node[1][2] if key[0] not in names]))


def slice_slice(node, schemas):
    """Two "slice", one behind the other, are one."""
    if not is_over(node, "slice", "slice"):
        return None
    _, plan, start, count = node[1]
    return ("slice", plan, start + node[2], count_behind(count, node[2], node[3]))


def count_behind(count, start, most):
    """How many of at most `count` rows there are from the index `start` on, if there are at most `most`."""
    if count is None:
        return most
    left = max(count - start, 0)
    return most if most is not None and most < left else left


def slice_down(node, schemas):
    """A "slice" goes ahead of a node that makes one row of each row."""
    return swapped(node) if node[0] == "slice" and node[1][0] in ("pick", "rename", "with") else None


def first_first(node, schemas):
    """Of two "first", one behind the other, one is enough if one asks only for columns that the other asks for."""
    if not is_over(node, "first", "first"):
        return None
    _, plan, names = node[1]
    if are_among(names, node[2]):
        return ("first", plan, names)
    return ("first", plan, node[2]) if are_among(node[2], names) else None


def fold(node, schemas):
    """The expression of a node is folded."""
    if node[0] not in ("where", "with"):
        return None
    folded = folded_within(node[-1])
    return (*node[:-1], folded) if folded != node[-1] else None


ACTIONS = {
    "where-where": where_where,
    "where-pick": where_pick,
    "where-rename": where_rename,
    "where-with": where_with,
    "where-sort": where_sort,
    "where-stack": where_stack,
    "where-left": where_left,
    "where-right": where_right,
    "where-group": where_group,
    "where-first": where_first,
    "where-melt": where_melt,
    "where-true": where_true,
    "pick-pick": pick_pick,
    "pick-all": pick_all,
    "pick-with": pick_with,
    "pick-sort": pick_sort,
    "sort-sort": sort_sort,
    "slice-slice": slice_slice,
    "slice-down": slice_down,
    "first-first": first_first,
    "fold": fold,
}
