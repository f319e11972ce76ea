"""Sheets: tables for writing, which share their blocks until one of them is written to."""

from labelframes.errors import Closed, InvalidNumber, InvalidValue, NotASheet, TooMany, UnknownColumn
from labelframes.frames import Frame, check_frame
from labelframes.values import check_row, is_count, is_index, is_value, places_of


class Block:
    """Some values of a column, and the sheets that took them; those that are closed since then do not count."""

    def __init__(self, worths, holder):
        self.worths = list(worths)
        self.holders = [holder]

    def held_beside(self, sheet):
        """The list of the open sheets, other than this one, that hold the block."""
        return [holder for holder in self.holders if holder.is_open and holder != sheet]


class Sheet:
    """A table for writing."""

    MOST_BLOCK = 100

    def __init__(self, frame, *, block=4):
        check_frame(frame)
        if not is_count(block) or not 1 <= block <= Sheet.MOST_BLOCK:
            raise InvalidNumber(block)
        self._schema = frame.schema
        self._block = block
        self._indexes = list(range(len(frame)))
        self._copies = 0
        self._is_open = True
        self._columns = []
        for name in frame.names:
            worths = frame.column(name)
            self._columns.append([Block(worths[at:at + block], self) for at in range(0, len(worths), block)])

    @property
    def schema(self):
        """The schema."""
        return self._schema

    @property
    def copies(self):
        """How many blocks were copied by writes to this sheet."""
        return self._copies

    @property
    def is_open(self):
        """Whether the sheet is not closed."""
        return self._is_open

    def put(self, index, name, value):
        """Writes a value."""
        self._check_open()
        if not is_index(index, len(self)):
            raise InvalidNumber(index)
        places = places_of(self._schema)
        if not isinstance(name, str) or name not in places:
            raise UnknownColumn(name)
        if not is_value(self._schema[places[name]][1], value):
            raise InvalidValue(value)
        block = self._block_to_write(places[name], index // self._block)
        block.worths[index % self._block] = value

    def add_row(self, row):
        """Appends a row, and returns its index."""
        self._check_open()
        check_row(row, self._schema)
        index = len(self)
        for place, value in enumerate(row):
            if index % self._block == 0:
                self._columns[place].append(Block([value], self))
            else:
                self._block_to_write(place, index // self._block).worths.append(value)
        self._indexes.append(index)
        return index

    def to_frame(self):
        """The Frame of the values."""
        self._check_open()
        columns = [[worth for block in column for worth in block.worths] for column in self._columns]
        return Frame(self._schema, tuple([tuple(row) for row in zip(*columns)]))

    def twin(self):
        """An open copy, which holds the same blocks."""
        self._check_open()
        return self._lend_to(Sheet(Frame(self._schema), block=self._block))

    def close(self):
        """Closes the sheet."""
        self._check_open()
        self._let_go()

    def shared(self, other):
        """The number of the blocks that this sheet and another one both hold."""
        check_sheet(other)
        pairs = [pair for one, two in zip(self._columns, other._columns) for pair in zip(one, two)]
        return len([one for one, two in pairs if one == two])

    def _check_open(self):
        """Raises Closed if the sheet is closed."""
        if not self._is_open:
            raise Closed()

    def _let_go(self):
        """Closes the sheet, which may be closed already."""
        self._is_open = False
        self._columns = []

    def _block_to_write(self, place, at):
        """The block at an index of a column, which no other open sheet holds then."""
        column = self._columns[place]
        block = column[at]
        others = block.held_beside(self)
        if len(others) > 0:
            block.holders = others
            column[at] = Block(block.worths, self)
            self._copies += 1
        return column[at]

    def _lend_to(self, twin):
        """Gives a new sheet without rows the blocks of this one, and returns it."""
        twin._indexes = list(self._indexes)
        twin._columns = [list(column) for column in self._columns]
        for column in twin._columns:
            for block in column:
                block.holders = [*block.held_beside(twin), twin]
        return twin

    def __enter__(self):
        self._check_open()
        return self

    def __exit__(self, kind, value, trace):
        self._let_go()

    def __len__(self):
        # A closed sheet holds no columns any more, but still the indexes of its rows.
        return len(self._indexes)


class NotedSheet(Sheet):
    """A sheet that keeps which writes were made."""

    def __init__(self, frame, *, block=4):
        super().__init__(frame, block=block)
        self._notes = []

    def notes(self):
        """The tuple of the writes that were made."""
        return tuple(self._notes)

    def put(self, index, name, value):
        """Writes a value."""
        super().put(index, name, value)
        self._notes.append(("put", index, name, value))

    def add_row(self, row):
        """Appends a row, and returns its index."""
        index = super().add_row(row)
        self._notes.append(("add", row))
        return index

    def twin(self):
        """An open copy, which holds the same blocks and notes."""
        self._check_open()
        return self._lend_to(NotedSheet(Frame(self._schema), block=self._block))

    def _lend_to(self, twin):
        """Gives a new sheet without rows the blocks and the notes of this one, and returns it."""
        twin._notes = list(self._notes)
        return super()._lend_to(twin)


class BoundedSheet(Sheet):
    """A sheet that may have a bound for the number of its rows."""

    def __init__(self, frame, *, block=4):
        super().__init__(frame, block=block)
        self._most = None

    @property
    def most(self):
        """How many rows there may be, or None if there is no bound."""
        return self._most

    def change_most(self, most):
        """Sets the bound."""
        self._check_open()
        if most is not None and (not is_count(most) or most < len(self)):
            raise InvalidNumber(most)
        self._most = most

    def add_row(self, row):
        """Appends a row, and returns its index."""
        self._check_open()
        check_row(row, self._schema)
        if self._most is not None and len(self) >= self._most:
            raise TooMany(self._most)
        return super().add_row(row)

    def twin(self):
        """An open copy, which holds the same blocks and has the same bound."""
        self._check_open()
        return self._lend_to(BoundedSheet(Frame(self._schema), block=self._block))

    def _lend_to(self, twin):
        """Gives a new sheet without rows the blocks and the bound of this one, and returns it."""
        twin._most = self._most
        return super()._lend_to(twin)


class NotedBoundedSheet(NotedSheet, BoundedSheet):
    """A sheet that keeps which writes were made, and may have a bound for the number of its rows."""

    def twin(self):
        """An open copy, which holds the same blocks and notes and has the same bound."""
        self._check_open()
        return self._lend_to(NotedBoundedSheet(Frame(self._schema), block=self._block))


def check_sheet(sheet):
    """Raises NotASheet if a value is not a Sheet."""
    if not isinstance(sheet, Sheet):
        raise NotASheet(sheet)


def used(sheet, action):
    """Calls a function with a sheet that is closed behind it, and returns what the function returns."""
    check_sheet(sheet)
    with sheet as held:
        return action(held)
