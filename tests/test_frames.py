"""Tests of class Frame: what is asked of it, but for its text."""

import unittest

from labelframes.errors import InvalidNumber, InvalidRows, NotAFrame, UnknownColumn
from labelframes.frames import Frame, House, check_frame
from tests.cases import ANY_VALUES, ErrorCase, Odd

SCHEMA = (("city", "text"), ("age", "int"), ("old", "bool"))
ROWS = (("Rome", 30, True), (None, 7, None), ("Bonn", None, False))


class ExamplesTest(ErrorCase):
    def test_first_example(self):
        frame = Frame((("city", "text"), ("age", "int")), (("Rome", 30), (None, 7)))
        found = [frame.names, frame.column("age"), frame[1], str(frame), Frame.read(str(frame)) == frame, frame.table()]
        self.assertEqual(found, [('city', 'age'), (30, 7), (None, 7), 'city:text,age:int\n"Rome",30\n,7\n', True,
                                 'city       age       \nRome               30\n-                   7'])

    def test_second_example(self):
        self.refuses(InvalidRows, {"index": 1}, Frame, (("a", "int"),), ((1,), (True,)))


class FrameTest(ErrorCase):
    def setUp(self):
        self.frame = Frame(SCHEMA, ROWS)
        self.empty = Frame(SCHEMA)

    def test_properties(self):
        self.assertEqual(self.frame.schema, SCHEMA)
        self.assertEqual(self.frame.rows, ROWS)
        self.assertEqual(self.frame.names, ("city", "age", "old"))
        self.assertEqual((self.empty.schema, self.empty.rows, self.empty.names), (SCHEMA, (), ("city", "age", "old")))

    def test_properties_are_only_read(self):
        for name in ("schema", "rows", "names"):
            self.assertRaises(AttributeError, setattr, self.frame, name, ())

    def test_column(self):
        self.assertEqual(self.frame.column("city"), ("Rome", None, "Bonn"))
        self.assertEqual(self.frame.column(name="age"), (30, 7, None))
        self.assertEqual(self.frame.column("old"), (True, None, False))
        self.assertEqual(self.empty.column("age"), ())

    def test_unknown_column(self):
        for value in ANY_VALUES + ("City", "city ", "ages", 2, ("city",), ["city"], self.frame):
            self.keeps(UnknownColumn, "name", value, self.frame.column)
            self.keeps(UnknownColumn, "name", value, self.empty.column)

    def test_row(self):
        self.assertEqual([self.frame[0], self.frame[1], self.frame[2]], list(ROWS))

    def test_invalid_number(self):
        for value in (True, False, -1, 3, 4, 10 ** 29, None, [0], [], "0", "city", (0,), slice(0, 1), 1j, Odd(), object()):
            self.keeps(InvalidNumber, "number", value, lambda at: self.frame[at])
        for value in (0, 1, -1, True, None):
            self.keeps(InvalidNumber, "number", value, lambda at: self.empty[at])

    def test_length_and_truth(self):
        self.assertEqual([len(self.frame), len(self.empty)], [3, 0])
        self.assertTrue(self.frame)
        self.assertFalse(self.empty)
        self.assertTrue(Frame((("a", "bool"),), ((False,),)))

    def test_equal(self):
        self.assertIs(self.frame == Frame(SCHEMA, ROWS), True)
        self.assertIs(self.frame != Frame(SCHEMA, ROWS), False)
        self.assertIs(self.empty == Frame(SCHEMA, ()), True)

    def test_not_equal(self):
        one = Frame((("a", "int"),), ((1,),))
        others = (Frame((("b", "int"),), ((1,),)), Frame((("a", "bool"),), ((True,),)), Frame((("a", "int"),), ((2,),)),
                  Frame((("a", "int"),), ((None,),)), Frame((("a", "int"),), ((1,), (1,))), Frame((("a", "int"),)),
                  Frame((("a", "int"), ("b", "int")), ((1, 1),)), House(), House(a=one))
        for other in others + ANY_VALUES + (one.rows, one.schema, str(one), 1):
            self.assertIs(one == other, False, other)
            self.assertIs(one != other, True, other)
        swapped = Frame(SCHEMA, (ROWS[1], ROWS[0], ROWS[2]))
        self.assertIs(self.frame == swapped, False)
        self.assertIs(Frame((("a", "int"), ("b", "int"))) == Frame((("b", "int"), ("a", "int"))), False)
        self.assertIs(Frame((("a", "int"),)) == Frame((("a", "text"),)), False)

    def test_repr(self):
        self.assertEqual(repr(self.frame), "Frame(3 rows, 3 columns)")
        self.assertEqual(repr(self.empty), "Frame(0 rows, 3 columns)")
        self.assertEqual(repr(Frame((("a", "int"),), ((1,),))), "Frame(1 rows, 1 columns)")
        self.assertEqual(repr(Frame((("a", "int"),))), "Frame(0 rows, 1 columns)")

    def test_more_rows_than_the_limit_are_no_error(self):
        rows = tuple([(k,) for k in range(500)])
        self.assertEqual(len(Frame((("a", "int"),), rows)), 500)

    def test_check_frame(self):
        check_frame(self.frame)
        for value in ANY_VALUES + (House(a=self.frame), Frame, self.frame.rows):
            self.keeps(NotAFrame, "value", value, check_frame)

    def test_methods_stand_in_the_class(self):
        for name in ("__init__", "read", "column", "__getitem__", "__len__", "__eq__", "__str__", "__repr__", "table"):
            self.assertIn(name, vars(Frame))
        self.assertEqual(Frame.__module__, "labelframes.frames")


class TableTest(unittest.TestCase):
    def test_each_kind(self):
        lines = ["city       age        old       ",
                 "Rome               30 yes       ",
                 "-                   7 -         ",
                 "Bonn       -          no        "]
        self.assertEqual(Frame(SCHEMA, ROWS).table(), "\n".join(lines))

    def test_no_rows(self):
        self.assertEqual(Frame(SCHEMA).table(), "city       age        old       ")
        self.assertEqual(Frame((("abcdefgh", "bool"),)).table(), "abcdefgh  ")

    def test_wide_cells(self):
        rows = []
        for many in (9, 10, 11):
            rows.append(("x" * many, 10 ** (many - 1), "y"))
        lines = ["t          n          u         ",
                 "xxxxxxxxx   100000000 y         ",
                 "xxxxxxxxxx 1000000000 y         ",
                 "xxxxxxxxxxx 10000000000 y         "]
        frame = Frame((("t", "text"), ("n", "int"), ("u", "text")), tuple(rows))
        self.assertEqual(frame.table(), "\n".join(lines))

    def test_negative_numbers_and_plain_texts(self):
        frame = Frame((("n", "int"), ("t", "text")), ((-12345678, ""), (-123456789, 'a"b\\c'), (-1234567890, "-"), (0, " x")))
        lines = ["n          t         ",
                 " -12345678           ",
                 '-123456789 a"b\\c     ',
                 "-1234567890 -         ",
                 "         0  x        "]
        self.assertEqual(frame.table(), "\n".join(lines))


if __name__ == "__main__":
    unittest.main()
