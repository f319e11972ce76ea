"""What expressions are about: their columns, kinds and values; and Expr, with which they are written."""

from labelframes.errors import InvalidName, InvalidValue, NotAnExpr
from labelframes.evaluating import kind_within, value_within
from labelframes.folding import folded_within
from labelframes.forms import check_expression, columns_within, parts_of
from labelframes.frames import check_frame
from labelframes.notation import part_text, read_expression
from labelframes.values import KINDS, check_row, check_schema, is_kind, is_name, is_value, kinds_of, places_of


def columns_of(expression):
    """The ascending tuple of the names of the columns of an expression."""
    check_expression(expression)
    return tuple(sorted(set(columns_within(expression))))


def kind_of(expression, schema):
    """The kind of an expression over the columns of a schema."""
    check_expression(expression)
    check_schema(schema)
    return kind_within(expression, kinds_of(schema))


def value_of(expression, schema, row):
    """The value of an expression for a row of a schema."""
    check_expression(expression)
    check_schema(schema)
    check_row(row, schema)
    kind_within(expression, kinds_of(schema))
    return value_within(expression, places_of(schema), row)


def folded(expression):
    """The folded expression."""
    check_expression(expression)
    return folded_within(expression)


class Expr:
    """An expression, from which others are made by operators and methods."""

    def __init__(self, expression):
        check_expression(expression)
        self._tree = expression

    @staticmethod
    def col(name):
        """The Expr of a column."""
        if not is_name(name):
            raise InvalidName(name)
        return Expr(("col", name))

    @staticmethod
    def missing(kind):
        """The Expr of a missing value."""
        if not is_kind(kind):
            raise InvalidValue(kind)
        return Expr(("value", kind, None))

    @classmethod
    def of(cls, value):
        """The Expr of an integer, a text or a truth value."""
        for kind in KINDS:
            if value is not None and is_value(kind, value):
                return cls(("value", kind, value))
        raise InvalidValue(value)

    @classmethod
    def read(cls, text):
        """The Expr with this text."""
        return cls(read_expression(text))

    @property
    def tree(self):
        """The expression."""
        return self._tree

    def _made(self, word, *others):
        """The Expr of an operation whose parts are this one and others."""
        for other in others:
            check_expr(other)
        return Expr((word, self._tree, *[other.tree for other in others]))

    def __add__(self, other):
        return self._made("add", other)

    def __sub__(self, other):
        return self._made("sub", other)

    def __mul__(self, other):
        return self._made("mul", other)

    def __floordiv__(self, other):
        return self._made("div", other)

    def __and__(self, other):
        return self._made("and", other)

    def __or__(self, other):
        return self._made("or", other)

    def __invert__(self):
        return self._made("not")

    def equals(self, other):
        """Whether this and another one are equal."""
        return self._made("eq", other)

    def less(self, other):
        """Whether this is less than another one."""
        return self._made("lt", other)

    def at_most(self, other):
        """Whether this is less than another one, or equal."""
        return self._made("le", other)

    def modulo(self, other):
        """The rest behind a division."""
        return self._made("mod", other)

    def glued(self, other):
        """This text and another one behind it."""
        return self._made("glue", other)

    def otherwise(self, other):
        """This if it is not missing, otherwise another one."""
        return self._made("else", other)

    def there(self):
        """Whether this is not missing."""
        return self._made("there")

    def size(self):
        """The number of characters of this text."""
        return self._made("size")

    def choose(self, one, two):
        """The one if this is true, otherwise the other."""
        return self._made("if", one, two)

    def __call__(self, frame):
        check_frame(frame)
        kind_within(self._tree, kinds_of(frame.schema))
        places = places_of(frame.schema)
        return tuple([value_within(self._tree, places, row) for row in frame.rows])

    def __eq__(self, other):
        return isinstance(other, Expr) and self._tree == other._tree

    def __str__(self):
        return str(part_text(self._tree))

    def __repr__(self):
        return f"Expr({len(parts_of(self._tree))} nodes)"


def check_expr(expr):
    """Raises NotAnExpr if a value is not an Expr."""
    if not isinstance(expr, Expr):
        raise NotAnExpr(expr)
