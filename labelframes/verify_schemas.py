"""The kinds of expressions and the schemas of plans, as the checker sees them; None stands for an error."""


def kind_in(expression, kinds):
    """The kind of an expression over columns of these kinds, or None if it does not fit them."""
    if expression[0] == "col":
        return kinds.get(expression[1])
    if expression[0] == "value":
        return expression[1]
    return operation_kind(expression[0], [kind_in(part, kinds) for part in expression[1:]])


def operation_kind(word, kinds):
    """The kind of an operation whose parts have these kinds, or None if it wants others, or if a part has none."""
    if None in kinds:
        return None
    match [word, *kinds]:
        case ["add" | "sub" | "mul" | "div" | "mod", "int", "int"] | ["size", "text"]:
            return "int"
        case ["glue", "text", "text"]:
            return "text"
        case ["eq" | "lt" | "le", one, other]:
            return "bool" if one == other else None
        case ["and" | "or", "bool", "bool"] | ["not", "bool"]:
            return "bool"
        case ["there", _]:
            return "bool"
        case ["if", "bool", one, other] if one == other:
            return one
        case ["else", one, other] if one == other:
            return one
        case _:
            return None


def schema_in(plan, known):
    """The schema of a plan, or None; `known` has the schemas of the sources by their names."""
    match plan:
        case ["scan", source]:
            return known.get(source)
        case ["stack", one, other]:
            columns = schema_in(one, known)
            return columns if columns == schema_in(other, known) else None
        case ["join", one, other, pairs, how]:
            return joined_columns(schema_in(one, known), schema_in(other, known), pairs, how)
        case _:
            columns = schema_in(plan[1], known)
            return None if columns is None else columns_behind(plan, columns)


def columns_behind(node, columns):
    """The schema of a node whose only input has this one, or None."""
    kinds = dict(columns)
    match node:
        case ["where", _, expression]:
            return columns if kind_in(expression, kinds) == "bool" else None
        case ["pick", _, names]:
            return columns_named(names, kinds)
        case ["rename", _, old, new]:
            return renamed_columns(columns, old, new) if old in kinds and new not in kinds else None
        case ["with", _, name, expression]:
            return widened_columns(kinds, name, kind_in(expression, kinds))
        case ["sort", _, keys]:
            return None if columns_named([key[0] for key in keys], kinds) is None else columns
        case ["slice", _, _, _]:
            return columns
        case ["first", _, names]:
            return None if columns_named(names, kinds) is None else columns
        case ["group", _, names, sums]:
            return put_together(columns_named(names, kinds), total_columns(sums, kinds))
        case ["running", _, new, function, name, by]:
            total = None if columns_named(by, kinds) is None else total_kind(function, kinds.get(name))
            return put_together(columns, [(new, total)])
        case ["melt", _, keep, names, label, name]:
            return put_together(columns_named(keep, kinds), [(label, "text"), (name, only_kind(names, kinds))])
        case _:
            return None


def columns_named(names, kinds):
    """The columns with these names, or None if one of them is none."""
    if not all([name in kinds for name in names]):
        return None
    return tuple([(name, kinds[name]) for name in names])


def renamed_columns(columns, old, new):
    """The columns, of which one gets another name."""
    return tuple([(new, kind) if name == old else (name, kind) for name, kind in columns])


def widened_columns(kinds, name, kind):
    """The columns with a further one, or one of another kind, or None if that has no kind."""
    together = {**kinds, name: kind}
    return None if kind is None else tuple([(each, together[each]) for each in together])


def total_kind(function, kind):
    """The kind of a function of a column of this kind, or None if there is none."""
    if kind is None or function == "sum" and kind != "int":
        return None
    return "int" if function in ("count", "there") else kind


def total_columns(sums, kinds):
    """The columns of the sums of a "group"; their kind is None if there is none."""
    return [(new, total_kind(function, kinds.get(name))) for new, function, name in sums]


def only_kind(names, kinds):
    """The kind that all columns with these names have, or None if there is none."""
    found = [kinds.get(name) for name in names]
    return found[0] if all([kind == found[0] for kind in found]) else None


def put_together(columns, others):
    """The columns and others behind them, or None if a kind is missing or a name comes twice."""
    if columns is None or any([kind is None for _, kind in others]):
        return None
    together = (*columns, *others)
    return together if len(dict(together)) == len(together) else None


def joined_columns(left, right, pairs, how):
    """The schema of a "join" of inputs with these schemas, or None."""
    if left is None or right is None:
        return None
    one, other = dict(left), dict(right)
    if not all([x in one and y in other and one[x] == other[y] for x, y in pairs]):
        return None
    if how in ("semi", "anti"):
        return left
    tied = [y for _, y in pairs]
    return put_together(left, [column for column in right if column[0] not in tied])
