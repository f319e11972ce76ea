"""Names, values, rows and schemas, as the checker sees them.

The checker trusts nothing that it is passed. A value is asked for its very class ahead of anything else: an object of
another one may call itself equal to all there is, or raise an error whatever is done with it.
"""

KINDS = ("int", "text", "bool")
LETTERS = "abcdefghijklmnopqrstuvwxyz"


def is_number(value):
    """Whether a value is an integer, and no truth value."""
    return type(value) == int


def is_string(value):
    """Whether a value is a string."""
    return type(value) == str


def is_tuple(value):
    """Whether a value is a tuple."""
    return type(value) == tuple


def is_tuple_of(value, many):
    """Whether a value is a tuple of so many."""
    return is_tuple(value) and len(value) == many


def is_one_of(value, words):
    """Whether a value is one of these strings."""
    return is_string(value) and value in words


def is_name(value):
    """Whether a value is a name."""
    return is_string(value) and 1 <= len(value) <= 8 and all([sign in LETTERS for sign in value])


def is_of_kind(value, kind):
    """Whether a value, which may be missing, is of this kind."""
    if value is None:
        return True
    if kind == "int":
        return is_number(value)
    if kind == "text":
        return is_string(value) and all([" " <= sign <= "~" for sign in value])
    return value is True or value is False


def are_different_names(value):
    """Whether a value is a tuple of names, none of which comes twice."""
    return is_tuple(value) and all([is_name(name) for name in value]) and len(set(value)) == len(value)


def is_schema(value):
    """Whether a value is a schema."""
    if not is_tuple(value) or len(value) == 0 or not all([is_tuple_of(column, 2) for column in value]):
        return False
    if not all([is_one_of(kind, KINDS) for _, kind in value]):
        return False
    return are_different_names(tuple([name for name, _ in value]))


def are_schemas(value):
    """Whether a value is schemas."""
    if not is_tuple(value) or not all([is_tuple_of(pair, 2) for pair in value]):
        return False
    if not all([is_name(source) and is_schema(schema) for source, schema in value]):
        return False
    sources = [source for source, _ in value]
    return all([one < other for one, other in zip(sources, sources[1:])])


def are_rows(value, schema):
    """Whether a value is a tuple of rows of a schema."""
    if not is_tuple(value) or not all([is_tuple_of(row, len(schema)) for row in value]):
        return False
    return all([is_of_kind(worth, column[1]) for row in value for worth, column in zip(row, schema)])
