"""Tests of point 10: `folded`."""

import unittest

from labelframes.errors import FindError
from labelframes.expressions import folded, kind_of, value_of
from tests.cases import A, B, EXPRESSION_TEXTS, TEN, YES, bush_of, chain_of
from tests.oracle import Maker

NO = ("value", "bool", False)
NONE = ("value", "bool", None)
X = ("lt", A, B)
Y = ("there", A)
Z = ("eq", A, TEN)


def num(value):
    """An expression that is an integer or missing."""
    return ("value", "int", value)


def text(value):
    """An expression that is a text or missing."""
    return ("value", "text", value)


# Operations whose parts are values of the kinds of the table, with their values.
WORKED_OUT = (
    (("add", num(2), num(3)), num(5)), (("sub", num(2), num(3)), num(-1)), (("mul", num(2), num(3)), num(6)),
    (("div", num(-7), num(2)), num(-4)), (("mod", num(-7), num(2)), num(1)), (("div", num(1), num(0)), num(None)),
    (("mod", num(0), num(0)), num(None)), (("add", num(2), num(None)), num(None)), (("glue", text("a"), text("b")), text("ab")),
    (("glue", text(None), text("b")), text(None)), (("size", text("abc")), num(3)), (("size", text(None)), num(None)),
    (("eq", num(2), num(2)), YES), (("eq", text("a"), text("b")), NO), (("eq", NONE, NONE), NONE), (("lt", num(1), num(2)), YES),
    (("lt", YES, NO), NO), (("le", text("b"), text("a")), NO), (("le", num(None), num(2)), NONE), (("and", YES, YES), YES),
    (("and", NONE, NO), NO), (("and", NONE, YES), NONE), (("and", NONE, NONE), NONE), (("or", NONE, YES), YES),
    (("or", NO, NO), NO), (("or", NONE, NO), NONE), (("or", NONE, NONE), NONE), (("not", YES), NO), (("not", NONE), NONE),
    (("there", num(0)), YES), (("there", text(None)), NO), (("there", NONE), NO), (("if", YES, num(1), num(2)), num(1)),
    (("if", NONE, num(1), num(2)), num(2)), (("if", NO, text("a"), text(None)), text(None)),
    (("else", num(None), num(2)), num(2)),
    (("else", num(1), num(2)), num(1)), (("else", text(None), text(None)), text(None)),
    (("add", num(10 ** 29), num(10 ** 30)), num(11 * 10 ** 29)),
)

# What is replaced although a part is no value.
SHORTENED = (
    (("and", YES, X), X), (("and", X, YES), X), (("and", NO, X), NO), (("and", X, NO), NO),
    (("or", NO, X), X), (("or", X, NO), X), (("or", YES, X), YES), (("or", X, YES), YES),
    (("not", ("not", X)), X), (("not", ("not", ("not", X))), ("not", X)), (("not", ("not", ("not", ("not", X)))), X),
    (("if", YES, A, B), A), (("if", NO, A, B), B), (("if", NONE, A, B), B), (("if", YES, num(1), B), num(1)),
    (("if", NO, A, num(1)), num(1)), (("else", num(3), A), num(3)), (("else", num(None), A), A),
    (("else", text(""), A), text("")),
    (("else", NO, X), NO), (("else", num(0), A), num(0)),
)

# What stays as it is.
KEPT = (
    A, TEN, YES, NONE, X, ("and", X, Y), ("and", NONE, X), ("and", X, NONE), ("or", NONE, X), ("or", X, NONE), ("not", X),
    ("not", Y), ("if", X, A, A), ("if", X, YES, NO), ("else", A, num(1)), ("else", A, num(None)), ("else", A, A),
    ("add", A, num(0)),
    ("mul", num(0), A), ("eq", A, A), ("there", A), ("eq", X, YES), ("and", X, X), ("or", X, X), ("size", ("col", "s")),
    ("sub", A, A),
    ("glue", ("col", "s"), text("")),
)

# Values of other kinds than those of the table: no operation is worked out.
WRONG_KINDS = (
    ("add", num(1), text("a")), ("add", YES, YES), ("mul", num(1), YES), ("div", text("a"), num(0)), ("glue", text("a"), num(1)),
    ("glue", num(1), num(2)), ("size", num(1)), ("size", YES), ("eq", num(1), YES), ("eq", num(None), text(None)),
    ("lt", num(1), text("a")),
    ("le", NO, num(0)), ("not", num(1)), ("not", text("")), ("not", num(None)), ("and", num(1), num(1)), ("or", num(0), text("")),
    ("and", num(1), NONE), ("and", NONE, text(None)), ("or", NONE, num(1)), ("or", num(1), NONE),
)


class FoldedTest(unittest.TestCase):
    def becomes(self, expression, expected):
        """Asks for the folded expression, which stays when it is folded again."""
        self.assertEqual(repr(folded(expression)), repr(expected))
        self.assertEqual(repr(folded(expected)), repr(expected))

    def test_worked_out(self):
        for expression, expected in WORKED_OUT:
            self.becomes(expression, expected)

    def test_shortened(self):
        for expression, expected in SHORTENED:
            self.becomes(expression, expected)

    def test_kept(self):
        for expression in KEPT:
            self.becomes(expression, expression)

    def test_wrong_kinds_are_not_worked_out(self):
        for expression in WRONG_KINDS:
            self.becomes(expression, expression)
            self.becomes(("there", expression), ("there", expression))

    def test_wrong_kinds_are_shortened(self):
        for expression, expected in ((("and", YES, num(1)), num(1)), (("and", num(1), YES), num(1)), (("and", NO, num(1)), NO),
                                     (("and", text("a"), NO), NO), (("or", num(1), YES), YES), (("or", NO, text("a")), text("a")),
                                     (("if", num(1), num(2), num(3)), num(3)), (("if", text(None), A, B), B),
                                     (("if", YES, num(1), text("a")), num(1)), (("if", NO, num(1), text("a")), text("a")),
                                     (("else", num(1), text("a")), num(1)), (("else", num(None), text("a")), text("a")),
                                     (("not", ("not", num(1))), num(1))):
            self.becomes(expression, expected)

    def test_the_first_part_is_looked_at_first(self):
        self.becomes(("and", YES, ("and", X, NO)), NO)
        self.becomes(("and", YES, NONE), NONE)
        self.becomes(("or", NO, NONE), NONE)
        self.becomes(("and", YES, num(1)), num(1))
        self.becomes(("and", NO, num(1)), NO)
        self.becomes(("or", YES, num(1)), YES)

    def test_parts_first(self):
        self.becomes(("and", ("lt", num(1), num(2)), X), X)
        self.becomes(("not", ("and", YES, ("not", X))), X)
        self.becomes(("not", ("if", YES, ("not", X), Y)), X)
        self.becomes(("if", ("not", ("there", num(None))), ("add", A, ("add", num(1), num(2))), B), ("add", A, num(3)))
        self.becomes(("else", ("div", num(1), num(0)), ("if", NO, A, B)), B)
        self.becomes(("eq", ("add", A, ("mul", num(2), num(3))), ("size", ("glue", text("a"), text("b")))),
                     ("eq", ("add", A, num(6)), num(2)))
        self.becomes(("and", ("not", ("not", Y)), ("or", X, ("and", X, NO))), ("and", Y, X))
        self.becomes(("not", ("and", X, ("or", Z, YES))), ("not", X))
        self.becomes(("add", ("else", num(None), num(4)), ("if", YES, num(1), A)), num(5))
        self.becomes(("there", ("size", num(1))), ("there", ("size", num(1))))
        self.becomes(("there", ("size", text("a"))), YES)

    def test_numbers_are_no_truth_values(self):
        self.becomes(("and", ("eq", num(1), A), num(1)), ("and", ("eq", num(1), A), num(1)))
        self.becomes(("or", num(0), X), ("or", num(0), X))
        self.becomes(("if", num(1), A, B), B)

    def test_all_parts_of_each_form(self):
        for expression, _ in EXPRESSION_TEXTS:
            self.assertEqual(folded(("not", ("not", ("there", expression)))), folded(("there", expression)))
            self.assertEqual(folded(expression=("if", YES, expression, A)), folded(expression))

    def test_limits(self):
        self.becomes(chain_of(8), ("not", A))
        self.becomes(chain_of(7), A)
        self.becomes(bush_of(40), folded(bush_of(40)))

    def test_same_values_for_all_rows(self):
        for seed in range(400):
            maker = Maker(seed)
            schema = maker.schema()
            expression = maker.expression(schema, maker.random.choice(maker.KINDS), 4)
            other = folded(expression)
            self.assertEqual(folded(other), other)
            self.assertEqual(kind_of(other, schema), kind_of(expression, schema))
            for row in maker.rows(schema):
                self.assertEqual(repr(value_of(other, schema, row)), repr(value_of(expression, schema, row)))

    def test_nothing_is_left_to_be_worked_out(self):
        for seed in range(400):
            maker = Maker(seed)
            stack = [folded(maker.expression(maker.schema(), "bool", 4))]
            while stack:
                part = stack.pop()
                if part[0] not in ("col", "value"):
                    self.assertFalse(all(inner[0] == "value" for inner in part[1:]), part)
                    self.assertFalse(part[0] in ("and", "or") and (YES in part or NO in part), part)
                    self.assertFalse(part[0] in ("if", "else") and part[1][0] == "value", part)
                    self.assertFalse(part[0] == "not" and part[1][0] == "not", part)
                    stack.extend(part[1:])

    def test_what_does_not_fit(self):
        with self.assertRaises(FindError):
            kind_of(WRONG_KINDS[0], (("a", "int"),))
        self.assertEqual(folded(("add", ("col", "zz"), num(1))), ("add", ("col", "zz"), num(1)))


if __name__ == "__main__":
    unittest.main()
