"""The texts of values and of frames."""

from labelframes.errors import InvalidText
from labelframes.reading import Reader
from labelframes.values import is_schema

CELL_WIDTH = 10


def truth_text(value):
    """The word for a truth value."""
    return "yes" if value else "no"


def value_text(value):
    """The text of a value that is not missing."""
    if isinstance(value, bool):
        return truth_text(value)
    if isinstance(value, int):
        return str(value)
    marked = value.replace("\\", "\\\\").replace('"', '\\"')
    return f'"{marked}"'


def cell_text(value):
    """The text of a value, perhaps a missing one, in the text of a frame."""
    return "" if value is None else value_text(value)


def header_line(schema):
    """The first line of the text of a frame, without its newline."""
    return ",".join([f"{name}:{kind}" for name, kind in schema])


def frame_lines(schema, rows):
    """The lines of the text of a frame, without their newlines."""
    return [header_line(schema), *[",".join([cell_text(value) for value in row]) for row in rows]]


def table_cell(value):
    """A value, as it stands in a table to look at."""
    if value is None:
        return "-".ljust(CELL_WIDTH)
    if isinstance(value, bool):
        return truth_text(value).ljust(CELL_WIDTH)
    if isinstance(value, int):
        return str(value).rjust(CELL_WIDTH)
    return value.ljust(CELL_WIDTH)


def table_line(values):
    """A line of a table to look at."""
    return " ".join([table_cell(value) for value in values])


def read_frame(text):
    """The schema and the rows of the frame with this text."""
    reader = Reader(text)
    schema = take_schema(reader)
    rows = []
    while reader.has_more():
        rows.append(take_row(reader, schema))
    return schema, tuple(rows)


def take_schema(reader):
    """Takes the first line of the text of a frame."""
    columns = [take_column(reader)]
    while reader.sees(","):
        reader.skip(",")
        columns.append(take_column(reader))
    reader.skip("\n")
    if not is_schema(tuple(columns)):
        raise InvalidText(reader.text)
    return tuple(columns)


def take_column(reader):
    """Takes a word, a colon and a word."""
    name = reader.take_word()
    reader.skip(":")
    return (name, reader.take_word())


def take_row(reader, schema):
    """Takes a line with a value for each column."""
    values = []
    for column in schema:
        if len(values) > 0:
            reader.skip(",")
        values.append(take_cell(reader, column[1]))
    reader.skip("\n")
    return tuple(values)


def take_cell(reader, kind):
    """Takes a value, perhaps a missing one, as it stands in the text of a frame."""
    if reader.sees(",") or reader.sees("\n"):
        return None
    if kind == "int":
        return reader.take_number()
    if kind == "text":
        return reader.take_quoted()
    return take_truth(reader)


def take_truth(reader):
    """Takes the word for a truth value."""
    word = reader.take_word()
    if word not in ("yes", "no"):
        raise InvalidText(reader.text)
    return word == "yes"
