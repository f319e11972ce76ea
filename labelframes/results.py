"""The rows that the nodes of plans give, from the rows of their inputs."""

from labelframes.evaluating import value_within
from labelframes.fitting import schema_behind, unpaired
from labelframes.forms import inputs_of
from labelframes.values import places_of


def result_within(plan, house):
    """The schema and the rows that a plan gives with a house that it fits."""
    if plan[0] == "scan":
        frame = house[plan[1]]
        return frame.schema, frame.rows
    inputs = [result_within(node, house) for node in inputs_of(plan)]
    schemas = [schema for schema, _ in inputs]
    return schema_behind(plan, schemas), rows_behind(plan, schemas, [rows for _, rows in inputs])


def rows_behind(node, schemas, inputs):
    """The rows that a node gives, other than a scan, whose inputs have these schemas and rows."""
    if node[0] == "stack":
        return [*inputs[0], *inputs[1]]
    if node[0] == "join":
        return join_rows(node, schemas, inputs)
    action = NODE_ROWS[node[0]]
    return action(node, places_of(schemas[0]), inputs[0])


def places_for(names, places):
    """The list of the places of these names."""
    return [places[name] for name in names]


def values_at(row, chosen):
    """The tuple of the values of a row at the chosen places."""
    return tuple([row[place] for place in chosen])


def where_rows(node, places, rows):
    """The rows of a "where" behind these."""
    return [row for row in rows if value_within(node[2], places, row) is True]


def pick_rows(node, places, rows):
    """The rows of a "pick" behind these."""
    chosen = places_for(node[2], places)
    return [values_at(row, chosen) for row in rows]


def same_rows(node, places, rows):
    """The rows of a node that only changes names."""
    return rows


def with_rows(node, places, rows):
    """The rows of a "with" behind these."""
    _, _, name, expression = node
    place = places.get(name, len(places))
    return [(*row[:place], value_within(expression, places, row), *row[place + 1:]) for row in rows]


def sort_rows(node, places, rows):
    """The rows of a "sort" behind these."""
    ordered = rows
    # Sorting leaves the sequence of alike rows as it is, so the first key comes last and decides over the others.
    for name, up in reversed(list(node[2])):
        ordered = sorted_rows(ordered, places[name], up)
    return ordered


def sorted_rows(rows, place, up):
    """Rows in the order of their values at a place, missing ones behind all others."""
    pairs = [(row[place], row) for row in rows if row[place] is not None]
    if up:
        ordered = sorted(pairs, key=first_of)
    else:
        ordered = sorted(pairs, key=first_of, reverse=True)
    return [*[row for _, row in ordered], *[row for row in rows if row[place] is None]]


def first_of(pair):
    """The first element of a pair."""
    return pair[0]


def slice_rows(node, places, rows):
    """The rows of a "slice" behind these."""
    _, _, start, count = node
    return rows[start:] if count is None else rows[start:start + count]


def first_rows(node, places, rows):
    """The rows of a "first" behind these."""
    chosen = places_for(node[2], places)
    groups = grouped(rows, chosen)
    return [groups[key][0] for key in groups]


def grouped(rows, chosen):
    """For the values at the chosen places the list of the rows that have them, in the sequence of their first rows."""
    groups = {}
    for row in rows:
        groups.setdefault(values_at(row, chosen), []).append(row)
    return groups


def group_rows(node, places, rows):
    """The rows of a "group" behind these."""
    _, _, names, sums = node
    groups = grouped(rows, places_for(names, places))
    return [(*key, *totals_of(sums, places, groups[key])) for key in groups]


def totals_of(sums, places, rows):
    """The list of the values of functions for the rows of a group."""
    return [total_of(function, [row[places[name]] for row in rows]) for _, function, name in sums]


def total_of(function, values):
    """The value of a function for one or more values."""
    if function == "first":
        return values[0]
    if function == "last":
        return values[-1]
    total = total_of_none(function)
    for value in values:
        total = total_with(function, total, value)
    return total


def total_of_none(function):
    """The value of a function, other than "first" and "last", for no values."""
    return None if function in ("min", "max") else 0


def total_with(function, total, value):
    """The value of a function for a further value, where `total` is that for the values before it."""
    if function == "count":
        return total + 1
    if value is None:
        return total
    if function == "there":
        return total + 1
    if function == "sum":
        return total + value
    if total is None:
        return value
    return min(total, value) if function == "min" else max(total, value)


def running_rows(node, places, rows):
    """The rows of a "running" behind these."""
    totals = {}
    return [running_row(node, places, totals, row) for row in rows]


def running_row(node, places, totals, row):
    """The row of a "running" behind this one; `totals` are those of the rows before it, and are brought up to it."""
    _, _, _, function, name, by = node
    key = values_at(row, places_for(by, places))
    totals[key] = total_with(function, totals.get(key, total_of_none(function)), row[places[name]])
    return (*row, totals[key])


def melt_rows(node, places, rows):
    """The rows of a "melt" behind these."""
    _, _, keep, names, _, _ = node
    chosen = places_for(keep, places)
    return [(*values_at(row, chosen), name, row[places[name]]) for row in rows for name in names]


def join_rows(node, schemas, inputs):
    """The rows of a "join" of two inputs with these schemas and rows."""
    joining = Joining(node, schemas, inputs[1])
    return [joined for row in inputs[0] for joined in joining.rows_for(row)]


class Joining:
    """A "join" that has the rows of its right input, and takes those of the left one one by one."""

    def __init__(self, node, schemas, rows):
        _, _, _, pairs, how = node
        places = places_of(schemas[1])
        self.how = how
        self.left = places_for([one for one, _ in pairs], places_of(schemas[0]))
        self.added = [places[name] for name, _ in unpaired(pairs, schemas[1])]
        self.groups = grouped(rows, places_for([other for _, other in pairs], places))

    def matching(self, row):
        """The list of the rows of the right input that match a row of the left one."""
        key = values_at(row, self.left)
        # Missing values are equal to nothing, not even to each other.
        return [] if None in key else self.groups.get(key, [])

    def rows_for(self, row):
        """The list of the rows that there are for a row of the left input."""
        others = self.matching(row)
        if self.how in ("semi", "anti"):
            return [row] if (len(others) > 0) == (self.how == "semi") else []
        if self.how == "left" and len(others) == 0:
            return [(*row, *[None for _ in self.added])]
        return [(*row, *values_at(other, self.added)) for other in others]


NODE_ROWS = {
    "where": where_rows,
    "pick": pick_rows,
    "rename": same_rows,
    "with": with_rows,
    "sort": sort_rows,
    "slice": slice_rows,
    "first": first_rows,
    "group": group_rows,
    "running": running_rows,
    "melt": melt_rows,
}
