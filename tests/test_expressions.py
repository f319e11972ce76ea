"""Tests of points 8 and 9 and of the functions of labelframes.expressions, but for `folded`."""

import copy
import itertools
import unittest

from labelframes.errors import InvalidExpression, InvalidRow, InvalidSchema, UnknownColumn, WrongKind
from labelframes.expressions import columns_of, folded, kind_of, value_of
from tests.cases import A, ANY_VALUES, B, EXPRESSION_TEXTS, TEN, YES, ErrorCase, Odd, bush_of, chain_of

TRUTHS = (True, False, None)
KINDS = ("int", "text", "bool")
SCHEMA = (("a", "int"), ("b", "int"), ("s", "text"), ("t", "text"), ("p", "bool"), ("q", "bool"))
P, Q, X, Y = ("col", "p"), ("col", "q"), ("col", "s"), ("col", "t")
OF_TWO_INTS = ("add", "sub", "mul", "div", "mod")
# A column of each kind, and its kind.
COLUMNS = ((A, "int"), (X, "text"), (P, "bool"))


def shown(values):
    """Values that are compared so that True is not taken for 1."""
    return [repr(value) for value in values]


def fits(word, kinds):
    """The kind of an operation whose parts have these kinds, or None."""
    if word in OF_TWO_INTS:
        return "int" if kinds == ("int", "int") else None
    if word in ("eq", "lt", "le"):
        return "bool" if kinds[0] == kinds[1] else None
    if word in ("and", "or"):
        return "bool" if kinds == ("bool", "bool") else None
    if word == "if":
        return kinds[1] if kinds[0] == "bool" and kinds[1] == kinds[2] else None
    if word == "else":
        return kinds[0] if kinds[0] == kinds[1] else None
    return {("glue", ("text", "text")): "text", ("size", ("text",)): "int", ("not", ("bool",)): "bool",
            ("there", kinds): "bool"}.get((word, kinds))


PARTS = {"add": 2, "sub": 2, "mul": 2, "div": 2, "mod": 2, "glue": 2, "size": 1, "eq": 2, "lt": 2, "le": 2, "and": 2,
         "or": 2, "not": 1, "there": 1, "if": 3, "else": 2}


class ExamplesTest(ErrorCase):
    def test_first_example(self):
        schema = (("a", "int"), ("b", "int"))
        expression = ("lt", ("col", "b"), ("add", ("col", "a"), ("mul", ("value", "int", 2), ("value", "int", 3))))
        values = list(map(lambda row: value_of(expression, schema, row), ((1, 6), (1, 7), (None, 6))))
        found = [columns_of(expression), kind_of(expression, schema), values, folded(expression)]
        self.assertEqual(found, [('a', 'b'), 'bool', [True, False, None],
                                 ('lt', ('col', 'b'), ('add', ('col', 'a'), ('value', 'int', 6)))])

    def test_second_example(self):
        self.refuses(WrongKind, {"word": "size"}, kind_of, ("and", ("there", ("col", "a")), ("size", ("col", "a"))),
                     (("a", "int"),))


class ColumnsOfTest(ErrorCase):
    def test_columns(self):
        self.assertEqual(columns_of(A), ("a",))
        self.assertEqual(columns_of(("value", "text", "a")), ())
        self.assertEqual(columns_of(("not", ("value", "bool", None))), ())
        self.assertEqual(columns_of(("if", ("col", "zz"), ("add", ("col", "b"), ("col", "aa")), ("col", "b"))), ("aa", "b", "zz"))
        self.assertEqual(columns_of(expression=("eq", B, ("eq", A, B))), ("a", "b"))

    def test_columns_need_no_fitting_kinds(self):
        self.assertEqual(columns_of(("and", ("size", YES), ("add", P, A))), ("a", "p"))

    def test_results_are_equal_and_new(self):
        self.assertEqual(columns_of(bush_of(40)), columns_of(bush_of(40)))


class KindOfTest(ErrorCase):
    def test_columns_and_values(self):
        for expression, kind in COLUMNS:
            self.assertEqual(kind_of(expression, SCHEMA), kind)
        for kind in KINDS:
            self.assertEqual(kind_of(("value", kind, None), (("a", "int"),)), kind)
        self.assertEqual(kind_of(("value", "int", 3), schema=SCHEMA), "int")
        self.assertEqual(kind_of(expression=YES, schema=SCHEMA), "bool")
        self.assertEqual(kind_of(("value", "text", ""), SCHEMA), "text")

    def test_each_operation_and_each_kind_of_its_parts(self):
        for word, many in PARTS.items():
            for columns in itertools.product(COLUMNS, repeat=many):
                expression = (word, *[column for column, _ in columns])
                kind = fits(word, tuple(kind for _, kind in columns))
                if kind is None:
                    self.refuses(WrongKind, {"word": word}, kind_of, expression, SCHEMA)
                    self.refuses(WrongKind, {"word": word}, value_of, expression, SCHEMA, (1, 2, "x", "y", True, False))
                    self.refuses(WrongKind, {"word": word}, kind_of, ("there", expression), SCHEMA)
                else:
                    self.assertEqual(kind_of(expression, SCHEMA), kind)

    def test_missing_values_have_their_kind(self):
        self.refuses(WrongKind, {"word": "eq"}, kind_of, ("eq", ("value", "int", None), ("value", "text", None)), SCHEMA)
        self.refuses(WrongKind, {"word": "and"}, kind_of, ("and", YES, ("value", "int", None)), SCHEMA)
        self.assertEqual(kind_of(("else", ("value", "text", None), X), SCHEMA), "text")

    def test_unknown_columns(self):
        for name in ("c", "aa", "none"):
            self.refuses(UnknownColumn, {"name": name}, kind_of, ("col", name), SCHEMA)
            self.refuses(UnknownColumn, {"name": name}, kind_of, ("there", ("col", name)), SCHEMA)
            self.refuses(UnknownColumn, {"name": name}, value_of, ("col", name), (("a", "int"),), (1,))

    def test_parts_first_and_the_first_one_first(self):
        wrong, unknown = ("size", A), ("col", "z")
        for expression, error, told in (
                (("add", unknown, ("col", "y")), UnknownColumn, {"name": "z"}),
                (("add", A, unknown), UnknownColumn, {"name": "z"}),
                (("glue", A, unknown), UnknownColumn, {"name": "z"}),
                (("and", wrong, unknown), WrongKind, {"word": "size"}),
                (("and", unknown, wrong), UnknownColumn, {"name": "z"}),
                (("and", A, wrong), WrongKind, {"word": "size"}),
                (("not", ("not", ("add", A, X))), WrongKind, {"word": "add"}),
                (("not", ("add", A, B)), WrongKind, {"word": "not"}),
                (("if", A, X, ("glue", X, B)), WrongKind, {"word": "glue"}),
                (("if", A, wrong, unknown), WrongKind, {"word": "size"}),
                (("if", A, X, X), WrongKind, {"word": "if"}),
                (("if", P, X, A), WrongKind, {"word": "if"}),
                (("eq", ("lt", A, X), ("le", A, X)), WrongKind, {"word": "lt"}),
                (("else", ("eq", A, B), ("sub", A, B)), WrongKind, {"word": "else"})):
            self.refuses(error, told, kind_of, expression, SCHEMA)
            self.refuses(error, told, value_of, expression, SCHEMA, (None,) * 6)

    def test_parts_that_cannot_matter_must_fit_too(self):
        self.refuses(WrongKind, {"word": "size"}, kind_of, ("and", ("value", "bool", False), ("there", ("size", A))), SCHEMA)
        self.refuses(UnknownColumn, {"name": "z"}, value_of, ("if", YES, A, ("col", "z")), (("a", "int"),), (1,))


class ValueOfTest(ErrorCase):
    def of(self, word, *values, kinds=None):
        """The value of an operation whose parts are columns with these values; their kinds are those of the values."""
        kinds = kinds or ["bool" if isinstance(v, bool) else "int" if isinstance(v, int) else "text" for v in values]
        schema = tuple(zip("abc", kinds))
        expression = (word, *[("col", name) for name, _ in schema])
        found = value_of(expression, schema, values)
        constant = (word, *[("value", kind, v) for kind, v in zip(kinds, values)])
        self.assertEqual(repr(value_of(constant, SCHEMA, (None,) * 6)), repr(found))
        return found

    def test_columns_and_values(self):
        row = (1, None, "x", "", True, None)
        self.assertEqual(shown([value_of(("col", name), SCHEMA, row) for name, _ in SCHEMA]), shown(row))
        for kind, value in (("int", 5), ("int", None), ("text", "x"), ("text", None), ("bool", False), ("bool", None)):
            self.assertEqual(repr(value_of(("value", kind, value), SCHEMA, row)), repr(value))

    def test_sums_differences_products(self):
        for x, y in itertools.product((0, 1, -1, 7, -12, 10 ** 29, 1 - 10 ** 30), repeat=2):
            self.assertEqual([self.of("add", x, y), self.of("sub", x, y), self.of("mul", x, y)], [x + y, x - y, x * y])

    def test_quotients(self):
        for x, y, whole, rest in ((7, 2, 3, 1), (-7, 2, -4, 1), (7, -2, -4, -1), (-7, -2, 3, -1), (6, 2, 3, 0), (-6, 2, -3, 0),
                                  (6, -3, -2, 0), (1, 5, 0, 1), (-1, 5, -1, 4), (1, -5, -1, -4), (0, 3, 0, 0), (0, -3, 0, 0),
                                  (10 ** 29 + 1, 10, 10 ** 28, 1), (-1, 10 ** 29, -1, 10 ** 29 - 1)):
            self.assertEqual((self.of("div", x, y), self.of("mod", x, y)), (whole, rest))

    def test_quotients_by_0_are_missing(self):
        for x in (0, 1, -1, 10 ** 29):
            self.assertIs(self.of("div", x, 0), None)
            self.assertIs(self.of("mod", x, 0), None)

    def test_texts(self):
        for x, y in itertools.product(("", "a", "Rome", '"\\', "x" * 40), repeat=2):
            self.assertEqual(self.of("glue", x, y), x + y)
            self.assertEqual(self.of("size", x), len(x))

    def test_order(self):
        ordered = {"int": (-10 ** 29, -2, -1, 0, 1, 2, 10, 10 ** 29), "bool": (False, True),
                   "text": ("", " ", "A", "AB", "B", "a", "aa", "ab", "b", "~")}
        for values in ordered.values():
            for i, j in itertools.product(range(len(values)), repeat=2):
                x, y = values[i], values[j]
                found = [self.of("eq", x, y), self.of("lt", x, y), self.of("le", x, y)]
                self.assertEqual(shown(found), shown([i == j, i < j, i <= j]))

    def test_eq_of_truth_values(self):
        for x, y in itertools.product(TRUTHS, repeat=2):
            expected = None if x is None or y is None else x == y
            self.assertIs(self.of("eq", x, y, kinds=("bool", "bool")), expected)

    def test_and_or_not(self):
        table = {(True, True): (True, True), (True, False): (False, True), (True, None): (None, True),
                 (False, True): (False, True), (False, False): (False, False), (False, None): (False, None),
                 (None, True): (None, True), (None, False): (False, None), (None, None): (None, None)}
        for (x, y), (both, one) in table.items():
            self.assertIs(self.of("and", x, y, kinds=("bool", "bool")), both)
            self.assertIs(self.of("or", x, y, kinds=("bool", "bool")), one)
        for x, opposite in ((True, False), (False, True), (None, None)):
            self.assertIs(self.of("not", x, kinds=("bool",)), opposite)

    def test_there(self):
        for kind, values in (("int", (0, 1, -1)), ("text", ("", "x")), ("bool", (True, False))):
            for value in values:
                self.assertIs(self.of("there", value), True)
            self.assertIs(self.of("there", None, kinds=(kind,)), False)

    def test_if(self):
        for kind, one, other in (("int", 1, 0), ("text", "", "x"), ("bool", False, True), ("int", None, 5), ("int", 5, None)):
            kinds = ("bool", kind, kind)
            self.assertIs(self.of("if", True, one, other, kinds=kinds), one)
            self.assertIs(self.of("if", False, one, other, kinds=kinds), other)
            self.assertIs(self.of("if", None, one, other, kinds=kinds), other)

    def test_else(self):
        for kind, one, other in (("int", 0, 1), ("text", "", "x"), ("bool", False, True), ("int", 3, None)):
            self.assertIs(self.of("else", one, other, kinds=(kind, kind)), one)
            self.assertIs(self.of("else", None, other, kinds=(kind, kind)), other)
            self.assertIs(self.of("else", None, None, kinds=(kind, kind)), None)

    def test_missing_at_each_part(self):
        present = {"int": 3, "text": "x", "bool": True}
        for word, many in PARTS.items():
            if word in ("and", "or", "there", "if", "else"):
                continue
            for kinds in itertools.product(KINDS, repeat=many):
                if fits(word, kinds):
                    for missing in itertools.product((True, False), repeat=many):
                        values = tuple(None if none else present[kind] for none, kind in zip(missing, kinds))
                        found = self.of(word, *values, kinds=kinds)
                        self.assertIs(found is None, any(missing), (word, values))

    def test_nested(self):
        schema = (("age", "int"), ("city", "text"))
        expression = ("and", ("lt", ("col", "age"), ("value", "int", 30)),
                      ("not", ("eq", ("col", "city"), ("value", "text", "Rome"))))
        for row, expected in (((29, "Bonn"), True), ((30, "Bonn"), False), ((29, "Rome"), False), ((None, "Rome"), False),
                              ((None, "Bonn"), None), ((29, None), None), ((30, None), False), ((None, None), None)):
            self.assertIs(value_of(expression, schema, row), expected)
        self.assertIs(value_of(expression=expression, schema=schema, row=(1, "x")), True)

    def test_limits(self):
        self.assertIs(value_of(bush_of(40), (("a", "bool"),), (None,)), None)
        self.assertIs(value_of(chain_of(8), (("a", "bool"),), (True,)), False)

    def test_larger_values(self):
        big = A
        for _ in range(3):
            big = ("mul", big, big)
        self.assertEqual(value_of(big, (("a", "int"),), (10 ** 29,)), 10 ** 232)
        long = X
        for _ in range(3):
            long = ("glue", long, long)
        self.assertEqual(value_of(long, (("s", "text"),), ("x" * 40,)), "x" * 320)


class ErrorsTest(ErrorCase):
    CALLS = (columns_of, lambda expression: kind_of(expression, None), lambda expression: value_of(expression, None, None),
             folded)

    def refused(self, path, expression):
        for call in self.CALLS:
            self.refuses(InvalidExpression, {"path": path}, call, expression)

    def test_none_of_the_forms(self):
        for wrong in ANY_VALUES + ((), ["col", "a"], ("col", "A"), ("value", "int", True), ("value", "bool", 1),
                                   ("value", "bool", 0),
                                   ("value", "int", "1"), ("value", "text", 1), ("add", A), ("not", A, B), ("scan", "s"),
                                   ("col", Odd())):
            self.refused((), wrong)
            self.refused((1,), ("and", A, wrong))
            self.refused((0, 2), ("not", ("if", A, B, wrong)))

    def test_each_expression_before_its_parts(self):
        self.refused((), ("and", None))
        self.refused((), ("xor", None, ("not", None)))
        self.refused((0,), ("and", ("not",), None))
        self.refused((0, 1), ("and", ("or", A, ["col", "a"]), None))
        self.refused((1, 0), ("and", ("or", A, B), ("not", ("col", "a", "b"))))
        self.refused((2,), ("if", A, B, ["col", "a"]))

    def test_limits(self):
        for call in self.CALLS[:1] + self.CALLS[3:]:
            call(chain_of(8))
            call(bush_of(40))
        self.refused((), chain_of(9))
        self.refused((), bush_of(41))
        self.refused((0,) * 40, self.deep(40))
        self.refused((1, 0), ("and", bush_of(45), ("not", None)))

    def deep(self, levels):
        """Something so deep that is no expression at its end."""
        expression = True
        for _ in range(levels):
            expression = ("not", expression)
        return expression

    def test_parameters_in_their_sequence(self):
        self.refuses(InvalidExpression, {"path": ()}, kind_of, None, None)
        self.refuses(InvalidSchema, {"index": None}, kind_of, ("col", "z"), None)
        self.refuses(InvalidExpression, {"path": ()}, value_of, None, None, None)
        self.refuses(InvalidSchema, {"index": None}, value_of, ("col", "z"), [], None)
        self.refuses(InvalidRow, {"index": None}, value_of, ("col", "z"), (("a", "int"),), None)
        self.refuses(InvalidRow, {"index": 0}, value_of, ("col", "z"), (("a", "int"),), ("x",))
        self.refuses(InvalidRow, {"index": 0}, value_of, ("size", A), (("a", "int"),), (True,))
        self.refuses(UnknownColumn, {"name": "z"}, value_of, ("col", "z"), (("a", "int"),), (1,))

    def test_invalid_schema(self):
        for call in (lambda schema: kind_of(A, schema), lambda schema: value_of(A, schema, (1,))):
            for value in ANY_VALUES:
                if not isinstance(value, tuple):
                    self.refuses(InvalidSchema, {"index": None}, call, value)
            self.refuses(InvalidSchema, {"index": None}, call, ())
            self.refuses(InvalidSchema, {"index": None}, call, [("a", "int")])
            self.refuses(InvalidSchema, {"index": 0}, call, (["a", "int"],))
            self.refuses(InvalidSchema, {"index": 1}, call, (("a", "int"), ("b", "none")))
            self.refuses(InvalidSchema, {"index": 2}, call, (("a", "int"), ("b", "int"), ("a", "text"), None))

    def test_invalid_row(self):
        for value in ANY_VALUES + ((), (1,), (1, "x"), (1, "x", True, None), (None,) * 4, [1, "x", True], "1xT"):
            self.refuses(InvalidRow, {"index": None}, value_of, A, (("a", "int"), ("b", "text"), ("c", "bool")), value)
        for row, index in (((True, "x", True), 0), ((1, 1, True), 1), ((1, "x", 1), 2), ((1, "x", 0), 2), (("1", 1, 1), 0),
                           ((None, None, "yes"), 2), ((1, "a\n", True), 1), ((1, ["x"], 5), 1), ((Odd(), None, None), 0)):
            self.refuses(InvalidRow, {"index": index}, value_of, A, (("a", "int"), ("b", "text"), ("c", "bool")), row)
        self.assertIs(value_of(A, (("a", "int"), ("b", "text"), ("c", "bool")), (None, None, None)), None)


class NothingIsModifiedTest(unittest.TestCase):
    def test_equal_calls_and_arguments(self):
        for expression, _ in EXPRESSION_TEXTS:
            before = copy.deepcopy(expression)
            self.assertEqual(columns_of(expression), columns_of(expression))
            self.assertEqual(folded(expression), folded(expression))
            self.assertEqual(repr(expression), repr(before))
        row = (1, 2, "x", "y", True, False)
        expression = ("if", P, ("add", A, TEN), B)
        self.assertEqual([value_of(expression, SCHEMA, row), value_of(expression, SCHEMA, row)], [11, 11])


if __name__ == "__main__":
    unittest.main()
