"""Tests of class Expr."""

import unittest

from labelframes.errors import (InvalidExpression, InvalidName, InvalidText, InvalidValue, NotAFrame, NotAnExpr, NoText,
                                UnknownColumn, WrongKind)
from labelframes.expressions import Expr
from labelframes.frames import Frame, House
from tests.cases import A, ANY_VALUES, B, EXPRESSION_TEXTS, TEN, YES, ErrorCase, Odd, bush_of, chain_of

FRAME = Frame((("a", "int"), ("b", "int"), ("s", "text"), ("p", "bool")),
              ((1, 2, "x", True), (None, 0, "", False), (7, -2, None, None)))
# The methods with one Expr as their argument.
METHODS = {"equals": "eq", "less": "lt", "at_most": "le", "modulo": "mod", "glued": "glue", "otherwise": "else"}
X, Y, Z = Expr(("col", "x")), Expr(("not", ("col", "y"))), Expr(("value", "int", 3))


class ExampleTest(unittest.TestCase):
    def test_example(self):
        a, b = Expr.col("a"), Expr.col("b")
        test = (a + Expr.of(1)).less(b) | ~b.there()
        frame = Frame((("a", "int"), ("b", "int")), ((1, 3), (1, 2), (1, None), (None, 2)))
        self.assertEqual([str(test), test(frame), repr(test), Expr.read(str(test)) == test],
                         ['or(lt(add(a, 1), b), not(there(b)))', (True, False, True, None), 'Expr(9 nodes)', True])


class CreatedTest(ErrorCase):
    def test_tree(self):
        for expression, _ in EXPRESSION_TEXTS:
            self.assertIs(Expr(expression).tree, expression)
            self.assertEqual(Expr(expression=expression).tree, expression)
        self.assertRaises(AttributeError, setattr, X, "tree", A)

    def test_invalid_expression(self):
        for value in ANY_VALUES + ((), X, ["col", "a"], ("value", "int", True), ("value", "bool", 1)):
            self.refuses(InvalidExpression, {"path": ()}, Expr, value)
            self.refuses(InvalidExpression, {"path": (1, 0)}, Expr, ("and", A, ("not", value)))
        self.refuses(InvalidExpression, {"path": ()}, Expr, chain_of(9))
        self.refuses(InvalidExpression, {"path": ()}, Expr, bush_of(41))

    def test_col(self):
        for name in ("a", "abcdefgh", "yes", "none", "and"):
            self.assertEqual(Expr.col(name).tree, ("col", name))
        self.assertEqual(Expr.col(name="a"), Expr(A))
        for value in ANY_VALUES + ("abcdefghi", "a1", "B", ("a",), X, A):
            if value != "a" or isinstance(value, Odd):
                self.keeps(InvalidName, "name", value, Expr.col)

    def test_missing(self):
        for kind in ("int", "text", "bool"):
            self.assertEqual(repr(Expr.missing(kind).tree), repr(("value", kind, None)))
            self.assertEqual(Expr.missing(kind=kind), Expr.missing(kind))
        for value in ANY_VALUES + ("Int", "none", "value", ("int",), ["int"], X):
            self.keeps(InvalidValue, "value", value, Expr.missing)

    def test_of(self):
        for kind, value in (("int", 0), ("int", 1), ("int", -10 ** 29), ("int", 10 ** 40), ("text", ""), ("text", "a \\~\""),
                            ("text", "x" * 100), ("bool", True), ("bool", False)):
            self.assertEqual(repr(Expr.of(value).tree), repr(("value", kind, value)))
            self.assertEqual(Expr.of(value=value), Expr.of(value))

    def test_of_any_other_value(self):
        for value in ANY_VALUES + ("a\n", "\x7f", "\u00e4", ("a",), X, A, FRAME):
            if not isinstance(value, (bool, int)) and not (isinstance(value, str) and value.isascii() and value.isprintable()):
                self.keeps(InvalidValue, "value", value, Expr.of)

    def test_read(self):
        for expression, text in EXPRESSION_TEXTS:
            self.assertEqual(repr(Expr.read(text).tree), repr(expression))
        self.assertEqual(Expr.read(text="a"), Expr(A))
        wrong = [value for value in ANY_VALUES if value != "a" or isinstance(value, Odd)]
        for value in wrong + ["a ", "and(a)", "01", "not( a)", X, A]:
            self.keeps(InvalidText, "text", value, Expr.read)
        self.refuses(InvalidText, {"text": "not(" * 8 + "a" + ")" * 8}, Expr.read, "not(" * 8 + "a" + ")" * 8)


class OperationsTest(ErrorCase):
    def test_operators(self):
        x, y = X.tree, Y.tree
        for made, tree in ((X + Y, ("add", x, y)), (X - Y, ("sub", x, y)), (X * Y, ("mul", x, y)), (X // Y, ("div", x, y)),
                           (X & Y, ("and", x, y)), (X | Y, ("or", x, y)), (~X, ("not", x)), (Y + X, ("add", y, x)),
                           (Y - X, ("sub", y, x)), (X + X, ("add", x, x))):
            self.assertIs(type(made), Expr)
            self.assertEqual(made.tree, tree)

    def test_methods(self):
        x, y, z = X.tree, Y.tree, Z.tree
        for name, word in METHODS.items():
            self.assertEqual(getattr(X, name)(Y).tree, (word, x, y))
            self.assertEqual(getattr(Y, name)(other=X).tree, (word, y, x))
        self.assertEqual([X.there().tree, X.size().tree], [("there", x), ("size", x)])
        self.assertEqual(X.choose(Y, Z).tree, ("if", x, y, z))
        self.assertEqual(Y.choose(two=Z, one=X).tree, ("if", y, x, z))

    def test_kinds_do_not_matter(self):
        self.assertEqual((Z & Z).tree, ("and", Z.tree, Z.tree))
        self.assertEqual(Z.size().tree, ("size", Z.tree))

    def test_operands_stay(self):
        x = Expr(A)
        for made in (x + Y, ~x, x.less(Y), x.choose(Y, Z), x.there()):
            self.assertNotEqual(made, x)
            self.assertEqual((x.tree, Y.tree), (A, ("not", ("col", "y"))))

    def test_not_an_expr(self):
        for value in ANY_VALUES + (A, "a", Expr, FRAME, [X]):
            for name in METHODS:
                self.keeps(NotAnExpr, "value", value, getattr(X, name))
            self.keeps(NotAnExpr, "value", value, lambda wrong: X.choose(wrong, Y))
            self.keeps(NotAnExpr, "value", value, lambda wrong: X.choose(Y, wrong))
        self.refuses(NotAnExpr, {"value": 1}, X.choose, 1, 2)
        self.refuses(NotAnExpr, {"value": 2}, X.choose, X, 2)

    def test_limits(self):
        deep, large = Expr(chain_of(8)), Expr(bush_of(39))
        self.assertEqual(repr(~large), "Expr(40 nodes)")
        self.assertEqual(repr(~Expr(chain_of(7))), "Expr(8 nodes)")
        for call in (lambda: ~deep, lambda: deep + X, lambda: X - deep, lambda: X * deep, lambda: deep // X, lambda: X & deep,
                     lambda: deep | X, deep.there, deep.size, lambda: X.choose(X, deep), lambda: large & X, lambda: X + large,
                     lambda: large.choose(X, X), lambda: large.otherwise(large)):
            self.refuses(InvalidExpression, {"path": ()}, call)
        for name in METHODS:
            self.refuses(InvalidExpression, {"path": ()}, getattr(deep, name), X)
            self.refuses(InvalidExpression, {"path": ()}, getattr(X, name), large)
            self.refuses(NotAnExpr, {"value": None}, getattr(deep, name), None)
        self.refuses(NotAnExpr, {"value": None}, deep.choose, large, None)


class CalledTest(ErrorCase):
    def test_values(self):
        for text, values in (("a", (1, None, 7)), ("10", (10, 10, 10)), ("add(a, b)", (3, None, 5)), ("size(s)", (1, 0, None)),
                             ("there(p)", (True, True, False)), ("div(a, b)", (0, None, -4)), ("lt(b, a)", (False, None, True)),
                             ("if(p, a, b)", (1, 0, -2)), ('else(s, "z")', ("x", "", "z")),
                             ("and(p, there(a))", (True, False, None))):
            self.assertEqual(repr(Expr.read(text)(FRAME)), repr(values))
            self.assertEqual(Expr.read(text)(frame=FRAME), values)

    def test_no_rows(self):
        self.assertEqual(Expr(A)(Frame((("a", "int"),))), ())

    def test_not_a_frame(self):
        for value in ANY_VALUES + (House(s=FRAME), FRAME.rows, Frame, X):
            self.keeps(NotAFrame, "value", value, X)

    def test_a_frame_that_does_not_fit(self):
        for frame in (FRAME, Frame(FRAME.schema)):
            self.refuses(UnknownColumn, {"name": "x"}, X, frame)
            self.refuses(UnknownColumn, {"name": "z"}, Expr.read("and(z, size(a))"), frame)
            self.refuses(WrongKind, {"word": "size"}, Expr.read("and(size(a), z)"), frame)
            self.refuses(WrongKind, {"word": "eq"}, Expr.read("if(eq(a, s), a, s)"), frame)


class ShownTest(ErrorCase):
    def test_text(self):
        for expression, text in EXPRESSION_TEXTS:
            self.assertEqual(str(Expr(expression)), text)
            self.assertEqual(Expr.read(str(Expr(expression))), Expr(expression))

    def test_no_text(self):
        for name in ("yes", "no", "none"):
            self.refuses(NoText, {}, str, Expr.col(name))
            self.refuses(NoText, {}, str, ~(X + Expr.col(name)))
            self.assertEqual(repr(Expr.col(name)), "Expr(1 nodes)")

    def test_repr(self):
        for expression, nodes in ((A, 1), (YES, 1), (("not", A), 2), (("add", A, TEN), 3), (("if", A, B, ("not", TEN)), 5),
                                  (bush_of(40), 40), (chain_of(8), 8), (("and", A, A), 3)):
            self.assertEqual(repr(Expr(expression)), f"Expr({nodes} nodes)")

    def test_equal(self):
        self.assertIs(X + Y == Expr(("add", X.tree, Y.tree)), True)
        self.assertIs(X + Y != Expr(("add", X.tree, Y.tree)), False)
        for other in (Y + X, X - Y, X, Expr(("add", X.tree, X.tree)), (X + Y).tree, str(X + Y), Odd(), *ANY_VALUES):
            self.assertIs(X + Y == other, False)
            self.assertIs(X + Y != other, True)
        self.assertIs(Expr.of(1) == Expr.of(True), False)
        self.assertIs(Expr.of(0) != Expr.of(False), True)
        self.assertIs(Expr.missing("int") == Expr.missing("text"), False)

    def test_true(self):
        for expr in (X, Z, Expr.of(False), Expr.of(0), Expr.missing("bool")):
            self.assertIs(bool(expr), True)

    def test_methods_stand_in_the_class(self):
        for name in ("__init__", "col", "missing", "of", "read", "tree", "there", "size", "choose", "__call__", "__str__",
                     "__repr__", "__eq__", "__add__", "__sub__", "__mul__", "__floordiv__", "__and__", "__or__", "__invert__",
                     *METHODS):
            self.assertIn(name, vars(Expr))


if __name__ == "__main__":
    unittest.main()
