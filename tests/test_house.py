"""Tests of class House."""

import unittest

from labelframes.errors import InvalidName, NotAFrame, NotAHouse, UnknownSource
from labelframes.frames import Frame, House, check_house
from tests.cases import ANY_VALUES, ErrorCase

INTS = Frame((("a", "int"),), ((1,), (2,)))
TEXTS = Frame((("b", "text"), ("c", "bool")), (("x", True),))
NONE = Frame((("a", "int"),))


class HouseTest(ErrorCase):
    def setUp(self):
        self.house = House(t=TEXTS, s=INTS, ab=NONE)

    def test_names(self):
        self.assertEqual(self.house.names, ("ab", "s", "t"))
        self.assertEqual(House(b=INTS, abcdefgh=INTS, aa=INTS, a=INTS).names, ("a", "aa", "abcdefgh", "b"))
        self.assertEqual(House().names, ())

    def test_schemas(self):
        self.assertEqual(self.house.schemas, (("ab", NONE.schema), ("s", INTS.schema), ("t", TEXTS.schema)))
        self.assertEqual(House(s=INTS).schemas, (("s", (("a", "int"),)),))
        self.assertEqual(House().schemas, ())

    def test_properties_are_only_read(self):
        for name in ("names", "schemas"):
            self.assertRaises(AttributeError, setattr, self.house, name, ())

    def test_frames(self):
        self.assertIs(self.house["s"], INTS)
        self.assertIs(self.house["t"], TEXTS)
        self.assertIs(self.house["ab"], NONE)

    def test_unknown_source(self):
        for value in ANY_VALUES + ("S", "s ", "abc", ["s"], ("s",), INTS):
            self.keeps(UnknownSource, "name", value, lambda name: self.house[name])
            self.keeps(UnknownSource, "name", value, lambda name: House()[name])

    def test_in(self):
        for name in ("ab", "s", "t"):
            self.assertIs(name in self.house, True)
            self.assertIs(name in House(), False)
        for value in ANY_VALUES + ("S", ["s"], ("s",), INTS):
            self.assertIs(value in self.house, False)

    def test_length_and_truth(self):
        self.assertEqual([len(self.house), len(House(s=NONE)), len(House())], [3, 1, 0])
        self.assertTrue(self.house)
        self.assertTrue(House(s=NONE))
        self.assertFalse(House())

    def test_equal(self):
        same = House(ab=Frame((("a", "int"),)), s=Frame((("a", "int"),), ((1,), (2,))), t=TEXTS)
        self.assertIs(self.house == same, True)
        self.assertIs(self.house != same, False)
        self.assertIs(House() == House(), True)

    def test_not_equal(self):
        one = House(s=INTS)
        for other in (House(), House(t=INTS), House(s=NONE), House(s=INTS, t=INTS), INTS, one.schemas, *ANY_VALUES):
            self.assertIs(one == other, False)
            self.assertIs(one != other, True)

    def test_replaced(self):
        other = self.house.replaced(z=TEXTS, s=TEXTS, a=INTS)
        self.assertEqual(other, House(a=INTS, ab=NONE, s=TEXTS, t=TEXTS, z=TEXTS))
        self.assertEqual(other.names, ("a", "ab", "s", "t", "z"))
        self.assertEqual(self.house, House(ab=NONE, s=INTS, t=TEXTS))
        self.assertEqual(self.house.names, ("ab", "s", "t"))
        self.assertEqual(self.house.replaced(), self.house)
        self.assertEqual(House().replaced(s=INTS), House(s=INTS))

    def test_invalid_name(self):
        for call in (House, self.house.replaced):
            for name in ("", "A", "aB", "abcdefghi", "a b", "a1", "_", "a_", "\u00e4"):
                self.refuses(InvalidName, {"name": name}, call, **{name: INTS})
                self.refuses(InvalidName, {"name": name}, call, **{name: None})

    def test_not_a_frame(self):
        for call in (House, self.house.replaced):
            for value in ANY_VALUES + (self.house, INTS.rows, Frame, [INTS]):
                self.keeps(NotAFrame, "value", value, lambda wrong: call(s=wrong))

    def test_least_name_first(self):
        for call in (House, self.house.replaced):
            self.refuses(NotAFrame, {"value": 2}, call, c=3, b=2, a=INTS)
            self.refuses(InvalidName, {"name": "B"}, call, a=1, B=2)
            self.refuses(NotAFrame, {"value": 1}, call, bX=2, a=1)
            self.refuses(InvalidName, {"name": "aX"}, call, b=1, aX=INTS)
            self.refuses(InvalidName, {"name": ""}, call, **{"b": 1, "Z": 1, "": 1})

    def test_passed_frames_are_not_modified(self):
        frames = {"s": INTS, "a": TEXTS}
        house = House(**frames)
        house.replaced(**frames)
        self.assertEqual(list(frames.items()), [("s", INTS), ("a", TEXTS)])
        frames["b"] = INTS
        self.assertEqual(house.names, ("a", "s"))

    def test_check_house(self):
        check_house(self.house)
        for value in ANY_VALUES + (INTS, House, {"s": INTS}, self.house.schemas):
            self.keeps(NotAHouse, "value", value, check_house)

    def test_methods_stand_in_the_class(self):
        for name in ("__init__", "__getitem__", "__contains__", "__len__", "__eq__", "replaced"):
            self.assertIn(name, vars(House))
        self.assertEqual(House.__module__, "labelframes.frames")


if __name__ == "__main__":
    unittest.main()
