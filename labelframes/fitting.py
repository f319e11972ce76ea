"""The schemas of plans that are known to be plans, and the errors of plans that have none."""

from labelframes.errors import DifferentSchemas, DoubleColumn, UnknownColumn, UnknownSource, WrongKind
from labelframes.evaluating import kind_within
from labelframes.forms import inputs_of
from labelframes.values import kinds_of


def schema_within(plan, schemas):
    """The schema of a plan with these schemas; raises the errors of point 12."""
    if plan[0] == "scan":
        return source_schema(plan[1], schemas)
    return schema_behind(plan, [schema_within(node, schemas) for node in inputs_of(plan)])


def source_schema(source, schemas):
    """The schema of a source."""
    for name, schema in schemas:
        if name == source:
            return schema
    raise UnknownSource(source)


def schema_behind(node, inputs):
    """The schema of a node, other than a scan, whose inputs have these schemas."""
    if node[0] == "stack":
        return stack_schema(inputs[0], inputs[1])
    if node[0] == "join":
        return join_schema(node, inputs[0], inputs[1])
    action = NODE_SCHEMAS[node[0]]
    return action(node, inputs[0])


def chosen(names, schema):
    """The tuple of the columns with these names."""
    kinds = kinds_of(schema)
    for name in names:
        if name not in kinds:
            raise UnknownColumn(name)
    return tuple([(name, kinds[name]) for name in names])


def distinct(schema):
    """These columns; raises DoubleColumn if two of them have the same name."""
    names = set()
    for name, _ in schema:
        if name in names:
            raise DoubleColumn(name)
        names.add(name)
    return schema


def total_kind(function, kind):
    """The kind of the value of a function for a column of this kind."""
    if function in ("count", "there"):
        return "int"
    if function == "sum" and kind != "int":
        raise WrongKind("sum")
    return kind


def where_schema(node, schema):
    """The schema of a "where" behind this one."""
    if kind_within(node[2], kinds_of(schema)) != "bool":
        raise WrongKind("where")
    return schema


def pick_schema(node, schema):
    """The schema of a "pick" behind this one."""
    return chosen(node[2], schema)


def rename_schema(node, schema):
    """The schema of a "rename" behind this one."""
    _, _, old, new = node
    chosen((old,), schema)
    if new in kinds_of(schema):
        raise DoubleColumn(new)
    return tuple([(new if name == old else name, kind) for name, kind in schema])


def with_schema(node, schema):
    """The schema of a "with" behind this one."""
    _, _, new, expression = node
    kinds = kinds_of(schema)
    column = (new, kind_within(expression, kinds))
    if new not in kinds:
        return (*schema, column)
    return tuple([column if name == new else (name, kind) for name, kind in schema])


def sort_schema(node, schema):
    """The schema of a "sort" behind this one."""
    chosen([name for name, _ in node[2]], schema)
    return schema


def slice_schema(node, schema):
    """The schema of a "slice" behind this one."""
    return schema


def first_schema(node, schema):
    """The schema of a "first" behind this one."""
    chosen(node[2], schema)
    return schema


def group_schema(node, schema):
    """The schema of a "group" behind this one."""
    _, _, names, sums = node
    columns = chosen([*names, *[name for _, _, name in sums]], schema)
    kinds = kinds_of(columns)
    totals = [(new, total_kind(function, kinds[name])) for new, function, name in sums]
    return distinct((*columns[:len(names)], *totals))


def running_schema(node, schema):
    """The schema of a "running" behind this one."""
    _, _, new, function, name, by = node
    columns = chosen([name, *by], schema)
    return distinct((*schema, (new, total_kind(function, columns[0][1]))))


def melt_schema(node, schema):
    """The schema of a "melt" behind this one."""
    _, _, keep, names, label, value = node
    columns = chosen([*keep, *names], schema)
    kinds = [kind for _, kind in columns[len(keep):]]
    if any([kind != kinds[0] for kind in kinds]):
        raise WrongKind("melt")
    return distinct((*columns[:len(keep)], (label, "text"), (value, kinds[0])))


def stack_schema(one, other):
    """The schema of a "stack" behind these two."""
    if one != other:
        raise DifferentSchemas()
    return one


def join_schema(node, left, right):
    """The schema of a "join" behind these two."""
    _, _, _, pairs, how = node
    left_kinds = kinds_of(left)
    right_kinds = kinds_of(right)
    for one, other in pairs:
        chosen((one,), left)
        chosen((other,), right)
    if any([left_kinds[one] != right_kinds[other] for one, other in pairs]):
        raise WrongKind("join")
    if how in ("semi", "anti"):
        return left
    return distinct((*left, *unpaired(pairs, right)))


def unpaired(pairs, right):
    """The columns of the right input of a "join" that are in none of its pairs."""
    paired = [other for _, other in pairs]
    return tuple([column for column in right if column[0] not in paired])


NODE_SCHEMAS = {
    "where": where_schema,
    "pick": pick_schema,
    "rename": rename_schema,
    "with": with_schema,
    "sort": sort_schema,
    "slice": slice_schema,
    "first": first_schema,
    "group": group_schema,
    "running": running_schema,
    "melt": melt_schema,
}
