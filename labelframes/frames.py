"""Frames, and houses of frames."""

from labelframes.errors import InvalidName, InvalidNumber, NotAFrame, NotAHouse, UnknownColumn, UnknownSource
from labelframes.texts import frame_lines, read_frame, table_line
from labelframes.values import check_rows, check_schema, is_index, is_name, names_of


class Frame:
    """A table whose columns have names and kinds, and in which values may be missing."""

    def __init__(self, schema, rows=()):
        check_schema(schema)
        check_rows(rows, schema)
        self._schema = schema
        self._rows = rows

    @classmethod
    def read(cls, text):
        """The frame with this text."""
        schema, rows = read_frame(text)
        return cls(schema, rows)

    @property
    def schema(self):
        """The schema."""
        return self._schema

    @property
    def rows(self):
        """The tuple of the rows."""
        return self._rows

    @property
    def names(self):
        """The tuple of the names of the columns."""
        return names_of(self._schema)

    def column(self, name):
        """The tuple of the values of a column."""
        names = self.names
        if not isinstance(name, str) or name not in names:
            raise UnknownColumn(name)
        place = names.index(name)
        return tuple([row[place] for row in self._rows])

    def table(self):
        """A text to look at: a line for the names, and one for each row."""
        return "\n".join([table_line(values) for values in (self.names, *self._rows)])

    def __getitem__(self, at):
        if not is_index(at, len(self._rows)):
            raise InvalidNumber(at)
        return self._rows[at]

    def __iter__(self):
        raise TypeError("a frame is not iterated over, but its rows are")

    def __len__(self):
        return len(self._rows)

    def __eq__(self, other):
        return isinstance(other, Frame) and self._schema == other._schema and self._rows == other._rows

    def __str__(self):
        return "".join([f"{line}\n" for line in frame_lines(self._schema, self._rows)])

    def __repr__(self):
        return f"Frame({len(self._rows)} rows, {len(self._schema)} columns)"


class House:
    """Frames with names."""

    def __init__(self, **frames):
        for name in sorted(frames):
            if not is_name(name):
                raise InvalidName(name)
            check_frame(frames[name])
        self._frames = {name: frames[name] for name in sorted(frames)}

    @property
    def names(self):
        """The ascending tuple of the names."""
        return tuple(self._frames)

    @property
    def schemas(self):
        """The schemas of the frames: pairs of a name and a schema, ascending by the names."""
        return tuple([(name, self._frames[name].schema) for name in self._frames])

    def replaced(self, **frames):
        """A house with these frames in place of, or besides, those of this one."""
        together = {**self._frames, **frames}
        return House(**together)

    def __getitem__(self, name):
        if name not in self:
            raise UnknownSource(name)
        return self._frames[name]

    def __contains__(self, name):
        return isinstance(name, str) and name in self._frames

    def __iter__(self):
        raise TypeError("a house is not iterated over, but its names are")

    def __len__(self):
        return len(self._frames)

    def __eq__(self, other):
        return isinstance(other, House) and self._frames == other._frames


def check_frame(frame):
    """Raises NotAFrame if a value is not a Frame."""
    if not isinstance(frame, Frame):
        raise NotAFrame(frame)


def check_house(house):
    """Raises NotAHouse if a value is not a House."""
    if not isinstance(house, House):
        raise NotAHouse(house)
