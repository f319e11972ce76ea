"""Tests of labelframes.checker: simple plans that give the same, or do not."""

import unittest

from labelframes.certificates import certify_alike
from labelframes.slots import shape_of
from tests.cases import A, ANY_VALUES, B, S, YES, Odd
from tests.claims import CheckerCase
from tests.queries import SCHEMAS as QUERY_SCHEMAS
from tests.queries import Writer, correspond
from tests.test_rules import up
from tests.test_simple import SA, SCHEMAS, copies, eq, join, number, orders, where


class SimpleTest(CheckerCase):
    def test_random_queries(self):
        seen = {"alike": 0, "unlike": 0}
        for seed in range(150):
            writer = Writer(seed)
            kinds = writer.random.choice((("int",), ("int", "int"), ("int", "text")))
            query = writer.query(kinds, 4)
            further = writer.bent(query)
            plans = [writer.plan(query), writer.plan(query), writer.plan(further)]
            if None not in plans:
                for one, other, expected in ((plans[0], plans[1], True), (plans[0], plans[2], correspond(query, further))):
                    claim, certificate = certify_alike(one, other, QUERY_SCHEMAS)
                    self.assertEqual(claim[0], "alike" if expected else "unlike")
                    seen[claim[0]] += 1
                    self.says(True, claim, certificate)
                    self.says(False, ("unlike" if expected else "alike", *claim[1:]), certificate)
                    self.no_mapping(one, other, expected)
                    data = tuple(writer.rows(schema) for _, schema in QUERY_SCHEMAS)
                    self.agrees(("unlike", one, other, QUERY_SCHEMAS), data)
        self.assertGreater(min(seen.values()), 50)

    def no_mapping(self, one, other, expected):
        """Asks which mappings are taken."""
        places = len(shape_of(one, QUERY_SCHEMAS).sources)
        mappings = [()] + [tuple(order) for order in orders(places)] + [(0,) * places, tuple(range(1, places + 1))]
        answers = [self.agrees(("alike", one, other, QUERY_SCHEMAS), mapping) for mapping in mappings]
        self.assertEqual(True in answers, expected)

    def test_one_thing_otherwise(self):
        for seed in range(25):
            writer = Writer(seed)
            query = writer.query(("int", "int"), 3)
            plans = [writer.plan(query), writer.plan(query), writer.plan(writer.bent(query))]
            if None not in plans:
                self.stands_alone(*certify_alike(plans[0], plans[1], QUERY_SCHEMAS), seed, 250)
                self.stands_alone(*certify_alike(plans[0], plans[2], QUERY_SCHEMAS), seed, 250)

    def test_forms_of_mappings(self):
        three = copies(3)
        claim = ("alike", three, three, SCHEMAS)
        for order in orders(3):
            self.says(True, claim, order)
        for wrong in ANY_VALUES + ((), (0, 1), (0, 1, 2, 3), (0, 1, 1), (0, 1, 3), (-1, 0, 1), (0, True, 2), (False, 1, 2), [0, 1, 2],
                                   (0, 1, None), (0, 1, "2"), (0, 1, 2.0), (0, 1, (2,)), (Odd(), 1, 2), ((0, 1, 2),), "012"):
            self.says(False, claim, wrong)
        self.says(False, ("alike", three, copies(2), SCHEMAS), (0, 1))
        self.says(False, ("alike", copies(2), three, SCHEMAS), (0, 1))
        # Places of different sources are not mapped onto each other.
        other = join(SA, ("scan", "n"), ("a", "f"))
        self.says(True, ("alike", other, other, SCHEMAS), (0, 1))
        self.says(False, ("alike", other, other, SCHEMAS), (1, 0))
        one = ("pick", join(("rename", ("scan", "n"), "f", "g"), ("scan", "n"), ("g", "f")), ("g",))
        self.says(True, ("alike", one, one, SCHEMAS), (1, 0))

    def test_a_column_of_a_pair_with_the_name_of_another_column(self):
        left = ("rename", ("pick", S, ("a", "b")), "b", "k")
        both = join(left, ("pick", ("scan", "t"), ("k", "l")), ("a", "k"))
        one, other = ("pick", both, ("k", "l")), ("rename", ("pick", both, ("a", "l")), "a", "k")
        self.says(True, ("alike", one, one, SCHEMAS), (0, 1))
        self.says(False, ("alike", one, other, SCHEMAS), (0, 1))
        self.says(True, ("unlike", one, other, SCHEMAS), ((), ((1, 2, "", None),), ((1, "x", None),)))
        self.says(False, ("unlike", one, other, SCHEMAS), ((), ((1, 1, "", None),), ((1, "x", None),)))
        self.says(False, ("alike", both, where(both, eq(A, ("col", "k"))), SCHEMAS), (0, 1))

    def test_one_place(self):
        for plan in (SA, where(SA, eq(A, A)), where(SA, eq(A, number(1)))):
            self.says(True, ("alike", plan, plan, SCHEMAS), (0,))
            for wrong in ((1,), (-1,), (False,), (0, 0), (0, 1), (), ((0,),), 0, None):
                self.says(False, ("alike", plan, plan, SCHEMAS), wrong)

    def test_each_condition_of_a_mapping(self):
        ab = ("pick", S, ("a", "b"))
        pairs = [(ab, where(ab, eq(A, B))), (where(ab, eq(A, number(1))), ab), (where(ab, eq(A, A)), ab),
                 (where(ab, eq(A, number(1))), where(ab, eq(A, number(2)))), (where(ab, eq(A, number(1))), where(ab, eq(B, number(1)))),
                 (where(ab, eq(A, A)), where(ab, eq(B, B))),
                 (ab, ("rename", ("rename", ("rename", ("pick", S, ("b", "a")), "a", "z"), "b", "a"), "z", "b")),
                 (where(ab, eq(A, number(1)), eq(A, number(2))), ab)]
        for one, other in pairs:
            for pair in ((one, other), (other, one)):
                for mapping in ((0,), (), (1,)):
                    self.says(False, ("alike", *pair, SCHEMAS), mapping)
                claim, certificate = certify_alike(*pair, SCHEMAS)
                self.assertEqual(claim[0], "unlike")
                self.says(True, claim, certificate)

    def test_void_plans(self):
        void = where(SA, eq(A, number(1)), eq(A, number(2)))
        other = where(copies(3), eq(A, number(3)), eq(A, number(4)))
        for one, two in ((void, void), (void, other), (other, void), (other, other)):
            self.says(True, ("alike", one, two, SCHEMAS), ())
            for wrong in ((0,), (0, 1, 2), [], None, "", 0, False, ((),)):
                self.says(False, ("alike", one, two, SCHEMAS), wrong)
            self.says(False, ("unlike", one, two, SCHEMAS), ((), ((1, 1, "", True),), ()))
        self.says(False, ("alike", SA, SA, SCHEMAS), ())
        self.says(False, ("alike", void, SA, SCHEMAS), ())
        self.says(False, ("alike", SA, void, SCHEMAS), (0,))
        self.says(True, ("unlike", void, SA, SCHEMAS), ((), ((1, None, None, None),), ()))

    def test_rows(self):
        claim = ("unlike", SA, copies(2), SCHEMAS)
        row = (1, 2, "x", True)
        good = ((), (row, row), ())
        self.says(True, claim, good)
        for wrong in ANY_VALUES + ((), good[:2], good + ((),), good[1:] + good[:1], list(good), ([], (row, row), ()),
                                   ((), [row, row], ()), ((), (row, list(row)), ()), ((), (row, row[:3]), ()),
                                   ((), (row, row + (1,)), ()), ((), (row, (True, 2, "x", True)), ()),
                                   ((), (row, (1, 2, "x", 1)), ()), ((), (row, (1, 2, "\n", True)), ()), ((), (row, (1, "2", "x", True)), ()),
                                   ((), (row, None), ()), (None, (row, row), ()), ((), (row, row), None), ((), (row, row), ((1,),)),
                                   ((("x",),), (row, row), ()), ((), (row, (Odd(), 2, "x", True)), ()), ((), (row,), ()), ((), (), ())):
            self.says(False, claim, wrong)
        self.says(True, claim, (((None,),), (row, row), ((None, None, None),)))
        # The rows must be given as often, whatever their sequence.
        turned = join(("scan", "n"), SA, ("f", "a"))
        other = ("rename", join(SA, ("scan", "n"), ("a", "f")), "a", "f")
        self.says(False, ("unlike", turned, other, SCHEMAS), (((1,), (2,)), ((2, 0, "", None), (1, 0, "", None)), ()))
        self.says(True, ("unlike", where(SA, eq(A, A)), SA, SCHEMAS), ((), ((None, 1, "", False),), ()))

    def test_rows_that_stand_often(self):
        claim = ("unlike", copies(2), copies(3), SCHEMAS)
        for many in (2, 30):
            self.says(True, claim, ((), ((1, None, None, None),) * many, ()))
        self.says(False, claim, ((), tuple((at, None, None, None) for at in range(400)), ()))
        self.says(False, ("unlike", copies(2), copies(2), SCHEMAS), ((), ((1, None, None, None),) * 300, ()))

    def test_plans_that_are_not_simple(self):
        rows = ((), ((1, 2, "x", True),), ())
        for plan in (("slice", SA, 0, 1), ("sort", SA, up("a")), where(SA, YES), where(SA, ("lt", A, number(1))), S, copies(6),
                     where(SA, ("or", eq(A, A), eq(A, A))), ("pick", where(S, eq(("col", "d"), YES)), ("a",)), ("stack", SA, SA),
                     where(SA, eq(number(1), number(1))), where(SA, eq(A, number(None))), where(SA, eq(A, ("add", A, A))),
                     *[("pick", join(SA, ("scan", "n"), ("a", "f"), how=how), ("a",)) for how in ("left", "semi", "anti")],
                     ("pick", join(S, ("scan", "t"), ("d", "m")), ("a",)), ("first", SA, ("a",)), ("group", SA, ("a",), ())):
            for word, certificate in (("alike", (0,)), ("alike", ()), ("alike", (0, 1)), ("unlike", rows), ("alike", tuple(range(6)))):
                self.says(False, (word, plan, plan, SCHEMAS), certificate)
                self.says(False, (word, plan, where(SA, eq(A, number(1)), eq(A, number(2))), SCHEMAS), certificate)
                self.says(False, (word, copies(2), plan, SCHEMAS), certificate)
        self.says(True, ("alike", copies(5), copies(5), SCHEMAS), (4, 3, 2, 1, 0))

    def test_different_schemas(self):
        rows = (((5,),), ((1, 2, "x", True),), ())
        for one, other in ((SA, ("pick", S, ("b",))), (SA, ("scan", "n")), (("pick", S, ("a", "b")), ("pick", S, ("b", "a"))),
                           (SA, ("rename", ("pick", S, ("c",)), "c", "a")), (SA, ("pick", S, ("a", "b")))):
            for word, certificate in (("alike", (0,)), ("unlike", rows)):
                self.says(False, (word, one, other, SCHEMAS), certificate)
                self.says(False, (word, other, one, SCHEMAS), certificate)

    def test_values_that_only_seem_equal(self):
        schemas = (("s", (("a", "int"), ("c", "text"))),)
        one = where(S, eq(A, number(1)), eq(("col", "c"), ("value", "text", "1")))
        other = where(S, eq(("col", "c"), ("value", "text", "1")), eq(A, number(1)))
        self.says(True, ("alike", one, other, schemas), (0,))
        self.says(False, ("alike", one, where(S, eq(A, number(1)), eq(("col", "c"), ("value", "text", "2"))), schemas), (0,))


if __name__ == "__main__":
    unittest.main()
