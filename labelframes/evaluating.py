"""Kinds and values of expressions that are known to be expressions."""

from labelframes.errors import UnknownColumn, WrongKind

# For each operation the kinds of its parts and its own one; "any" stands for the kind of the last part, whatever it is.
PART_KINDS = {
    "add": ("int", "int"),
    "sub": ("int", "int"),
    "mul": ("int", "int"),
    "div": ("int", "int"),
    "mod": ("int", "int"),
    "glue": ("text", "text"),
    "size": ("text",),
    "eq": ("any", "any"),
    "lt": ("any", "any"),
    "le": ("any", "any"),
    "and": ("bool", "bool"),
    "or": ("bool", "bool"),
    "not": ("bool",),
    "there": ("any",),
    "if": ("bool", "any", "any"),
    "else": ("any", "any"),
}
OWN_KINDS = {
    "add": "int",
    "sub": "int",
    "mul": "int",
    "div": "int",
    "mod": "int",
    "glue": "text",
    "size": "int",
    "eq": "bool",
    "lt": "bool",
    "le": "bool",
    "and": "bool",
    "or": "bool",
    "not": "bool",
    "there": "bool",
    "if": "any",
    "else": "any",
}


def kind_behind(word, kinds):
    """The kind of an operation whose parts have these kinds, or None if it wants others."""
    last = kinds[-1]
    if kinds != [last if kind == "any" else kind for kind in PART_KINDS[word]]:
        return None
    return last if OWN_KINDS[word] == "any" else OWN_KINDS[word]


def kind_within(expression, kinds):
    """The kind of an expression over columns of these kinds; raises the errors of point 9."""
    word = expression[0]
    if word == "col":
        if expression[1] not in kinds:
            raise UnknownColumn(expression[1])
        return kinds[expression[1]]
    if word == "value":
        return expression[1]
    kind = kind_behind(word, [kind_within(part, kinds) for part in expression[1:]])
    if kind is None:
        raise WrongKind(word)
    return kind


def value_within(expression, places, row):
    """The value of an expression for a row whose columns stand at these places."""
    word = expression[0]
    if word == "col":
        return row[places[expression[1]]]
    if word == "value":
        return expression[2]
    return value_behind(word, [value_within(part, places, row) for part in expression[1:]])


def value_behind(word, values):
    """The value of an operation whose parts have these values."""
    first = values[0]
    if word == "and":
        return settled(values, False)
    if word == "or":
        return settled(values, True)
    if word == "there":
        return first is not None
    if word == "if":
        return values[1] if first is True else values[2]
    if word == "else":
        return first if first is not None else values[1]
    if any([value is None for value in values]):
        return None
    if word == "not":
        return not first
    if word == "size":
        return len(first)
    return value_of_two(word, first, values[1])


def settled(truths, decisive):
    """The value of an "and" or an "or": one part with the decisive truth value is enough for it."""
    if any([truth == decisive for truth in truths]):
        return decisive
    return None if any([truth is None for truth in truths]) else not decisive


def value_of_two(word, one, other):
    """The value of an operation for two values, none of which is missing."""
    if word in ("add", "glue"):
        return one + other
    if word == "sub":
        return one - other
    if word == "mul":
        return one * other
    if word == "eq":
        return one == other
    if word == "lt":
        return one < other
    if word == "le":
        return one <= other
    return quotient(word, one, other)


def quotient(word, one, other):
    """The value of a "div" or a "mod"."""
    if other == 0:
        return None
    whole, rest = divmod(one, other)
    return whole if word == "div" else rest
