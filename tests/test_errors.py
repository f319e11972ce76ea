"""Tests of labelframes.errors (points 4 and the section of the module)."""

import unittest

from labelframes import errors
from tests.cases import ANY_VALUES

FRAME_ERRORS = {
    "InvalidName": "name", "InvalidSchema": "index", "InvalidRows": "index", "InvalidRow": "index",
    "InvalidValue": "value", "InvalidExpression": "path", "InvalidPlan": "path", "InvalidSchemas": "index",
    "InvalidFeed": "name", "InvalidNumber": "number", "InvalidSteps": "index", "InvalidPath": "path",
    "InvalidText": "text", "InvalidAction": "index", "InvalidLine": "line", "NotAFrame": "value",
    "NotAHouse": "value", "NotAnExpr": "value", "NotAPipe": "value", "NotASheet": "value",
}
FIND_ERRORS = {
    "UnknownSource": "name", "UnknownColumn": "name", "DoubleColumn": "name", "WrongKind": "word",
    "DifferentSchemas": None, "DoesNotApply": "index", "NotSimple": None, "NoText": None, "Closed": None,
    "Busy": None, "NothingToUndo": None,
}
LIMIT_ERRORS = {"TooMany": "limit"}
FAMILIES = (
    (errors.FrameError, ValueError, FRAME_ERRORS),
    (errors.FindError, LookupError, FIND_ERRORS),
    (errors.LimitError, ArithmeticError, LIMIT_ERRORS),
)


def classes():
    """Each class that has a family, with its attribute and its family."""
    for family, _, members in FAMILIES:
        for name, attribute in members.items():
            yield getattr(errors, name), attribute, family


class ErrorsTest(unittest.TestCase):
    def test_no_class_is_missing_or_more(self):
        found = {name for name, value in vars(errors).items() if isinstance(value, type)}
        listed = {family.__name__ for family, _, _ in FAMILIES}
        self.assertEqual(found, listed | set(FRAME_ERRORS) | set(FIND_ERRORS) | set(LIMIT_ERRORS))

    def test_families(self):
        for family, base, _ in FAMILIES:
            self.assertEqual(family.__bases__, (base,))
            self.assertIsInstance(family(), base)

    def test_own_class_and_those_above_only(self):
        for error, _, family in classes():
            self.assertEqual(error.__bases__, (family,), error)
            self.assertEqual(error.__module__, "labelframes.errors")

    def test_by_position_and_by_name(self):
        for error, attribute, _ in classes():
            if attribute is None:
                self.assertEqual(vars(error()), {})
                continue
            for value in ANY_VALUES:
                self.assertIs(getattr(error(value), attribute), value)
                self.assertIs(getattr(error(**{attribute: value}), attribute), value)
                self.assertEqual(list(vars(error(value))), [attribute])

    def test_wrong_arguments(self):
        for error, attribute, _ in classes():
            if attribute is not None:
                self.assertRaises(TypeError, error)
                self.assertRaises(TypeError, error, 1, 2)
                self.assertRaises(TypeError, error, other=1)

    def test_raised_and_caught(self):
        for error, attribute, family in classes():
            given = () if attribute is None else ("x",)
            for caught in (error, family, family.__bases__[0]):
                with self.assertRaises(caught):
                    raise error(*given)


if __name__ == "__main__":
    unittest.main()
