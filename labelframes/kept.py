"""Results of plans that are kept while the data change."""

from labelframes.errors import Busy, InvalidAction, InvalidNumber, NothingToUndo
from labelframes.frames import Frame
from labelframes.running import run
from labelframes.values import check_row, is_count

# For each change the number of the elements of its tuple.
CHANGES = {"insert": 4, "remove": 3, "replace": 4}


class Kept:
    """The result of a plan, which is kept while rows of its sources change."""

    def __init__(self, plan, house):
        self._frame = run(plan, house)
        self._plan = plan
        self._house = house
        # The changes that were made and not undone, each with the one that would undo it.
        self._past = []
        self._busy = False
        self._attempts = 0

    @property
    def house(self):
        """The present data."""
        return self._house

    @property
    def frame(self):
        """The present result."""
        return self._frame

    @property
    def busy(self):
        """Whether `do_all` works."""
        return self._busy

    @property
    def attempts(self):
        """How many calls of `do_all` got as far as their changes."""
        return self._attempts

    def do(self, change):
        """Makes a change, and returns what it does to the result: (start, count, rows)."""
        self._check_free()
        if not is_change(change):
            raise InvalidAction(None)
        return self._make(change)

    def insert_row(self, source, index, row):
        """Inserts a row, which gets this index."""
        return self.do(("insert", source, index, row))

    def remove_row(self, source, index):
        """Removes the row with this index."""
        return self.do(("remove", source, index))

    def replace_row(self, source, index, row):
        """Puts a row in the place of the one with this index."""
        return self.do(("replace", source, index, row))

    def do_all(self, changes, *, watch=None):
        """Makes all of the changes or none, and returns the tuple of what they do to the result."""
        self._check_free()
        check_changes(changes)
        self._attempts += 1
        house, frame, past = self._house, self._frame, list(self._past)
        told = None
        self._busy = True
        try:
            told = self._make_all(changes, watch)
            return told
        finally:
            self._busy = False
            if told is None:
                self._house = house
                self._frame = frame
                self._past = past

    def undo(self):
        """Undoes the last change that was made and not undone, and returns it."""
        self._check_free()
        if len(self._past) == 0:
            raise NothingToUndo()
        change, opposite = self._past[-1]
        self._move_to(house_behind(self._house, opposite))
        self._past.pop()
        return change

    def history(self):
        """The tuple of the changes that were made and not undone."""
        return tuple([change for change, _ in self._past])

    def _check_free(self):
        """Raises Busy if `do_all` works."""
        if self._busy:
            raise Busy()

    def _make(self, change):
        """Makes a change that has the form of one."""
        house = house_behind(self._house, change)
        opposite = opposite_of(change, self._house)
        rows = self._frame.rows
        self._move_to(house)
        self._past.append((change, opposite))
        return replacement(rows, self._frame.rows)

    def _make_all(self, changes, watch):
        """Makes changes one after another, and calls `watch` behind each of them if it is not None."""
        told = []
        for index, change in enumerate(changes):
            told.append(self._make(change))
            if watch is not None:
                watch(self, index)
        return tuple(told)

    def _move_to(self, house):
        """Takes other data, and their result."""
        self._frame = run(self._plan, house)
        self._house = house

    def __len__(self):
        return len(self._past)

    def __bool__(self):
        return True

    def __eq__(self, other):
        return isinstance(other, Kept) and self._plan == other._plan and self._house == other._house


def is_change(value):
    """Whether a value is a tuple of a word for a change and so many further elements."""
    if not isinstance(value, tuple) or len(value) == 0 or not isinstance(value[0], str):
        return False
    return CHANGES.get(value[0]) == len(value)


def check_changes(changes):
    """Raises InvalidAction if a value is not a tuple of changes."""
    if not isinstance(changes, tuple):
        raise InvalidAction(None)
    for index, change in enumerate(changes):
        if not is_change(change):
            raise InvalidAction(index)


def house_behind(house, change):
    """The house behind a change; raises the errors of a change that cannot be made."""
    word, source, index, *rows = change
    frame = house[source]
    first_beyond = len(frame) + 1 if word == "insert" else len(frame)
    if not is_count(index) or index >= first_beyond:
        raise InvalidNumber(index)
    for row in rows:
        check_row(row, frame.schema)
    behind = index if word == "insert" else index + 1
    frames = {source: Frame(frame.schema, (*frame.rows[:index], *rows, *frame.rows[behind:]))}
    return house.replaced(**frames)


def opposite_of(change, house):
    """The change that undoes a change that is made to a house."""
    word, source, index = change[:3]
    if word == "insert":
        return ("remove", source, index)
    return ("insert" if word == "remove" else "replace", source, index, house[source][index])


def replacement(old, new):
    """What makes the new rows of the old ones: the index from which on rows are replaced, how many, and by which."""
    most = min(len(old), len(new))
    start = 0
    while start < most and old[start] == new[start]:
        start += 1
    alike_behind = 0
    while alike_behind < most - start and old[-1 - alike_behind] == new[-1 - alike_behind]:
        alike_behind += 1
    return (start, len(old) - alike_behind - start, new[start:len(new) - alike_behind])
