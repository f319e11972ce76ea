"""Tests of points 6 and 7: names, kinds, values, rows, schemas, and the errors of `schema` and `schemas`."""

import unittest

from labelframes.errors import InvalidRows, InvalidSchema, InvalidSchemas
from labelframes.frames import Frame
from labelframes.values import check_rows, check_schema, check_schemas, is_kind, is_name, is_value
from tests.cases import ANY_VALUES, ErrorCase, Odd

INT = ("a", "int")
WRONG_NAMES = ("", "abcdefghi", "A", "aB", "a1", "1", "a_b", "a b", " a", "a ", "a\n", "a-b", "\u00e4", "\u0251", "a\u0301",
               "`", "{", None, True, 1, 0, b"a", ("a",), ["a"], Odd())
WRONG_KINDS = ("", "Int", "integer", "str", "float", " int", "int ", "none", None, True, 1, int, b"int", ("int",),
               ["int"], Odd())
# Elements that are no column wherever they stand.
WRONG_COLUMNS = tuple([(name, "int") for name in WRONG_NAMES]) + tuple([("b", kind) for kind in WRONG_KINDS]) + (
    None, True, 1, "ab", "a", b"ab", (), ("b",), ("b", "int", "int"), ["b", "int"], {"b": "int"}, (("b", "int"),), Odd())


class NamesTest(unittest.TestCase):
    def test_names(self):
        for name in ("a", "z", "abcdefgh", "zzzzzzzz", "yes", "none", "int"):
            self.assertIs(is_name(name), True, name)
        for name in WRONG_NAMES:
            self.assertIs(is_name(name), False, name)

    def test_kinds(self):
        for kind in ("int", "text", "bool"):
            self.assertIs(is_kind(kind), True)
        for kind in WRONG_KINDS:
            self.assertIs(is_kind(kind), False, kind)


class ValuesTest(unittest.TestCase):
    def test_missing_values(self):
        for kind in ("int", "text", "bool"):
            self.assertIs(is_value(kind, None), True)

    def test_integers(self):
        for value in (0, 1, -1, 10 ** 29, 10 ** 30 - 1, 1 - 10 ** 30, 10 ** 100):
            self.assertIs(is_value("int", value), True)
        for value in (True, False, "1", "", b"1", (1,), [1], (), 1j, int, Odd()):
            self.assertIs(is_value("int", value), False, value)

    def test_texts(self):
        signs = "".join([chr(code) for code in range(32, 127)])
        for value in ("", " ", "~", "yes", "a" * 40, "a" * 100, signs):
            self.assertIs(is_value("text", value), True)
        for code in [*range(32), 127, 128, 160, 255, 0x2028, 0xD800, 0x1F600]:
            self.assertIs(is_value("text", chr(code)), False, code)
            self.assertIs(is_value("text", "a" + chr(code) + "b"), False, code)
        for value in (True, 0, 1, b"a", ("a",), ["a"], Odd()):
            self.assertIs(is_value("text", value), False, value)

    def test_truth_values(self):
        self.assertIs(is_value("bool", True), True)
        self.assertIs(is_value("bool", False), True)
        for value in (0, 1, "yes", "", "True", (True,), [True], Odd()):
            self.assertIs(is_value("bool", value), False, value)


class SchemaTest(ErrorCase):
    def test_schemas_that_are_some(self):
        for schema in ((INT,), (("abcdefgh", "text"),), (INT, ("b", "text"), ("c", "bool"), ("d", "int"))):
            check_schema(schema)
            self.assertEqual(Frame(schema).schema, schema)

    def test_more_columns_than_the_limit_are_no_error(self):
        schema = tuple([(sign, "int") for sign in "abcdefghijklmnopqrst"])
        self.assertEqual(Frame(schema, (tuple(range(20)),)).names, tuple("abcdefghijklmnopqrst"))

    def test_no_tuple(self):
        for value in ANY_VALUES + ([INT], {"a": "int"}, "int"):
            if not isinstance(value, tuple):
                self.refuses(InvalidSchema, {"index": None}, Frame, value)
                self.refuses(InvalidSchema, {"index": None}, check_schema, value)

    def test_empty_tuple(self):
        self.refuses(InvalidSchema, {"index": None}, Frame, ())

    def test_first_wrong_column(self):
        for wrong in WRONG_COLUMNS:
            self.refuses(InvalidSchema, {"index": 0}, Frame, (wrong,))
            self.refuses(InvalidSchema, {"index": 0}, Frame, (wrong, INT))
            self.refuses(InvalidSchema, {"index": 1}, Frame, (INT, wrong))
            self.refuses(InvalidSchema, {"index": 2}, Frame, (INT, ("c", "bool"), wrong, wrong, INT))

    def test_pair_in_place_of_schema(self):
        self.refuses(InvalidSchema, {"index": 0}, Frame, INT)

    def test_column_twice(self):
        self.refuses(InvalidSchema, {"index": 1}, Frame, (INT, INT))
        self.refuses(InvalidSchema, {"index": 1}, Frame, (INT, ("a", "text")))
        self.refuses(InvalidSchema, {"index": 1}, Frame, (INT, INT, ("b", "int"), ("c", "int")))
        self.refuses(InvalidSchema, {"index": 2}, Frame, (INT, ("b", "int"), ("a", "bool"), ("b", "int")))
        self.refuses(InvalidSchema, {"index": 1}, Frame, (INT, ("A", "int"), INT))


class RowsTest(ErrorCase):
    schema = (("a", "int"), ("b", "text"), ("c", "bool"))

    def test_rows_that_are_some(self):
        for rows in ((), ((1, "x", True),), ((None, None, None), (-1, "", False), (1, "x", True), (1, "x", True))):
            check_rows(rows, self.schema)
            self.assertEqual(Frame(self.schema, rows).rows, rows)
            self.assertEqual(Frame(rows=rows, schema=self.schema).rows, rows)

    def test_no_tuple(self):
        for value in ANY_VALUES + ([(1, "x", True)],):
            if not isinstance(value, tuple):
                self.refuses(InvalidRows, {"index": None}, Frame, self.schema, value)

    def test_wrong_rows(self):
        good = (1, "x", True)
        wrong_rows = (
            None, True, 1, "abc", b"abc", [1, "x", True], {1: 1}, (), (1, "x"), (1, "x", True, None), (good,), Odd(),
            (True, "x", True), (False, "x", True), (1, "x", 1), (1, "x", 0), ("1", "x", True), (1, 1, True),
            (1, b"x", True), (1, "\x1f", True), (1, "\x7f", True), (1, "a\n", True), (1, "\u00e4", True),
            ((1,), "x", True), ([], "x", True), (1, ["x"], True), (1, "x", "yes"), (1, "x", Odd()), (Odd(), "x", True),
        )
        for wrong in wrong_rows:
            self.refuses(InvalidRows, {"index": 0}, Frame, self.schema, (wrong,))
            self.refuses(InvalidRows, {"index": 0}, Frame, self.schema, (wrong, wrong, good))
            self.refuses(InvalidRows, {"index": 2}, Frame, self.schema, (good, (None, None, None), wrong, good))

    def test_row_in_place_of_rows(self):
        self.refuses(InvalidRows, {"index": 0}, Frame, self.schema, (1, "x", True))

    def test_one_and_true(self):
        self.refuses(InvalidRows, {"index": 1}, Frame, (INT,), ((1,), (True,)))
        self.refuses(InvalidRows, {"index": 1}, Frame, (("a", "bool"),), ((True,), (1,)))

    def test_lists_are_not_modified(self):
        schema, rows, row = [INT], [(1,)], [1]
        self.raised(InvalidSchema, Frame, schema, rows)
        self.raised(InvalidRows, Frame, (INT,), rows)
        self.raised(InvalidRows, Frame, (INT,), (row,))
        self.assertEqual([schema, rows, row], [[INT], [(1,)], [1]])

    def test_schema_comes_first(self):
        self.refuses(InvalidSchema, {"index": 1}, Frame, (INT, None), ((1,), (True,)))
        self.refuses(InvalidSchema, {"index": None}, Frame, None, None)


class SchemasTest(ErrorCase):
    good = ("m", (INT,))

    def test_schemas_that_are_some(self):
        for schemas in ((), (self.good,), (("a", (INT,)), ("ab", (INT,)), self.good, ("z", (INT, ("b", "text"))))):
            self.assertIsNone(check_schemas(schemas))

    def test_no_tuple(self):
        for value in ANY_VALUES + ([self.good],):
            if not isinstance(value, tuple):
                self.refuses(InvalidSchemas, {"index": None}, check_schemas, value)

    def test_first_wrong_pair(self):
        wrong_schemas = ((), (INT, INT), [INT], INT, (["a", "int"],), None, "int", Odd())
        wrong_pairs = [("s", schema) for schema in wrong_schemas] + [(name, (INT,)) for name in WRONG_NAMES]
        for wrong in wrong_pairs + [None, True, (), ("s",), ("s", (INT,), (INT,)), ["s", (INT,)], Odd()]:
            self.refuses(InvalidSchemas, {"index": 0}, check_schemas, (wrong,))
            self.refuses(InvalidSchemas, {"index": 1}, check_schemas, (self.good, wrong, wrong))

    def test_not_ascending(self):
        for source in ("m", "l", "a", "ma", "lz"):
            pair = (source, (INT,))
            if source <= "m":
                self.refuses(InvalidSchemas, {"index": 1}, check_schemas, (self.good, pair))
                self.refuses(InvalidSchemas, {"index": 2}, check_schemas, (("a", (INT,)), self.good, pair))
            else:
                check_schemas((self.good, pair))


if __name__ == "__main__":
    unittest.main()
