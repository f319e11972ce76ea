"""Names, kinds, values, rows and schemas: what is one, and the errors if it is none."""

from labelframes.errors import InvalidRow, InvalidRows, InvalidSchema, InvalidSchemas

KINDS = ("int", "text", "bool")
MOST_LETTERS = 8


def is_whole(value):
    """Whether a value is an integer; truth values are none here, although Python counts them as such."""
    return isinstance(value, int) and not isinstance(value, bool)


def is_count(value):
    """Whether a value is an integer from 0 on."""
    return is_whole(value) and value >= 0


def is_index(value, many):
    """Whether a value is the index of one of so many things."""
    return is_count(value) and value < many


def is_name(value):
    """Whether a value is a name."""
    if not isinstance(value, str) or not 1 <= len(value) <= MOST_LETTERS:
        return False
    return all(["a" <= sign <= "z" for sign in value])


def is_kind(value):
    """Whether a value is the name of a kind."""
    return isinstance(value, str) and value in KINDS


def is_text(value):
    """Whether a value is a string of characters from the space to the tilde."""
    # Of the signs of ASCII just these are printable ones.
    return isinstance(value, str) and value.isascii() and value.isprintable()


def is_value(kind, value):
    """Whether a value, which may be missing, is of a kind."""
    if value is None:
        return True
    if kind == "int":
        return is_whole(value)
    if kind == "text":
        return is_text(value)
    return isinstance(value, bool)


def is_pair(value):
    """Whether a value is a tuple of two."""
    return isinstance(value, tuple) and len(value) == 2


def is_column(value):
    """Whether a value is a pair of a name and a kind."""
    return is_pair(value) and is_name(value[0]) and is_kind(value[1])


def valid_columns(schema):
    """The number of columns ahead of the first one that is none, or has the name of an earlier one."""
    names = set()
    for column in schema:
        if not is_column(column) or column[0] in names:
            return len(names)
        names.add(column[0])
    return len(names)


def is_schema(value):
    """Whether a value is a schema."""
    return isinstance(value, tuple) and len(value) > 0 and valid_columns(value) == len(value)


def check_schema(schema):
    """Raises InvalidSchema if a value is not a schema."""
    if not isinstance(schema, tuple) or len(schema) == 0:
        raise InvalidSchema(None)
    valid = valid_columns(schema)
    if valid < len(schema):
        raise InvalidSchema(valid)


def check_schemas(schemas):
    """Raises InvalidSchemas if a value is not a tuple of pairs (source, schema), ascending by the sources."""
    if not isinstance(schemas, tuple):
        raise InvalidSchemas(None)
    before = ""
    for index, pair in enumerate(schemas):
        if not is_pair(pair) or not is_name(pair[0]) or not is_schema(pair[1]) or pair[0] <= before:
            raise InvalidSchemas(index)
        before = pair[0]


def names_of(schema):
    """The tuple of the names of the columns of a schema."""
    return tuple([name for name, _ in schema])


def kinds_of(schema):
    """For the name of each column of a schema its kind."""
    return {name: kind for name, kind in schema}


def places_of(schema):
    """For the name of each column of a schema its index."""
    return {column[0]: index for index, column in enumerate(schema)}


def is_row(value, schema):
    """Whether a value is a row of a schema."""
    if not isinstance(value, tuple) or len(value) != len(schema):
        return False
    return all([is_value(column[1], item) for column, item in zip(schema, value)])


def check_rows(rows, schema):
    """Raises InvalidRows if a value is not a tuple of rows of a schema."""
    if not isinstance(rows, tuple):
        raise InvalidRows(None)
    for index, row in enumerate(rows):
        if not is_row(row, schema):
            raise InvalidRows(index)


def check_row(row, schema):
    """Raises InvalidRow if a value is not a row of a schema."""
    if not isinstance(row, tuple) or len(row) != len(schema):
        raise InvalidRow(None)
    for index, column in enumerate(schema):
        if not is_value(column[1], row[index]):
            raise InvalidRow(index)
