"""The errors of the package. Each keeps what it is created with, as it is."""


class FrameError(ValueError):
    """What was passed is not of the form that is wanted."""


class InvalidName(FrameError):
    """A name is not one to eight letters from a to z."""

    def __init__(self, name):
        self.name = name


class InvalidSchema(FrameError):
    """A schema is not one; `index` is that of the first wrong column, or None."""

    def __init__(self, index):
        self.index = index


class InvalidRows(FrameError):
    """Rows are not a tuple of rows of the schema; `index` is that of the first wrong one, or None."""

    def __init__(self, index):
        self.index = index


class InvalidRow(FrameError):
    """A row is not one of the schema; `index` is that of the first wrong value, or None."""

    def __init__(self, index):
        self.index = index


class InvalidValue(FrameError):
    """A value is not one of the kind that is wanted."""

    def __init__(self, value):
        self.value = value


class InvalidExpression(FrameError):
    """An expression is not one; `path` leads to the first wrong part."""

    def __init__(self, path):
        self.path = path


class InvalidPlan(FrameError):
    """A plan is not one; `path` leads to the first wrong node."""

    def __init__(self, path):
        self.path = path


class InvalidSchemas(FrameError):
    """Schemas are not what they should be; `index` is that of the first wrong pair, or None."""

    def __init__(self, index):
        self.index = index


class InvalidFeed(FrameError):
    """The feed with this name is not one."""

    def __init__(self, name):
        self.name = name


class InvalidNumber(FrameError):
    """A number is not one of those that are allowed."""

    def __init__(self, number):
        self.number = number


class InvalidSteps(FrameError):
    """Steps are not what they should be; `index` is that of the first wrong one, or None."""

    def __init__(self, index):
        self.index = index


class InvalidPath(FrameError):
    """A path does not lead to a node of the plan."""

    def __init__(self, path):
        self.path = path


class InvalidText(FrameError):
    """A text is not that of a frame, an expression or a plan."""

    def __init__(self, text):
        self.text = text


class InvalidAction(FrameError):
    """A change, or one of several, is not one; `index` tells which, or is None."""

    def __init__(self, index):
        self.index = index


class InvalidLine(FrameError):
    """A line is not one that the console answers."""

    def __init__(self, line):
        self.line = line


class NotAFrame(FrameError):
    """A value is not a Frame."""

    def __init__(self, value):
        self.value = value


class NotAHouse(FrameError):
    """A value is not a House."""

    def __init__(self, value):
        self.value = value


class NotAnExpr(FrameError):
    """A value is not an Expr."""

    def __init__(self, value):
        self.value = value


class NotAPipe(FrameError):
    """A value is not a Pipe."""

    def __init__(self, value):
        self.value = value


class NotASheet(FrameError):
    """A value is not a Sheet."""

    def __init__(self, value):
        self.value = value


class FindError(LookupError):
    """What was passed has the right form, but does not fit what is there."""


class UnknownSource(FindError):
    """There is no source with this name."""

    def __init__(self, name):
        self.name = name


class UnknownColumn(FindError):
    """There is no column with this name."""

    def __init__(self, name):
        self.name = name


class DoubleColumn(FindError):
    """Two columns would have this name."""

    def __init__(self, name):
        self.name = name


class WrongKind(FindError):
    """A part or a column has another kind than the operation `word` wants."""

    def __init__(self, word):
        self.word = word


class DifferentSchemas(FindError):
    """Two schemas are not equal."""


class DoesNotApply(FindError):
    """The step with this index does not apply."""

    def __init__(self, index):
        self.index = index


class NotSimple(FindError):
    """A plan is not simple."""


class NoText(FindError):
    """An expression or a plan cannot be written as a text."""


class Closed(FindError):
    """A sheet is closed."""


class Busy(FindError):
    """An object is at work and cannot be changed."""


class NothingToUndo(FindError):
    """There is no change to undo."""


class LimitError(ArithmeticError):
    """A limit is reached."""


class TooMany(LimitError):
    """There would be more than the limit allows."""

    def __init__(self, limit):
        self.limit = limit
