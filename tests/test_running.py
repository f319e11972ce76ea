"""Tests of the results of point 11 and of labelframes.running."""

import copy
import unittest

from labelframes.errors import InvalidName, InvalidPlan, NotAFrame, NotAHouse, UnknownColumn, UnknownSource
from labelframes.frames import Frame, House
from labelframes.running import result, run
from tests.cases import A, ANY_VALUES, B, PLAN_TEXTS, S, T, TEN, YES, ErrorCase

# Ties, a row twice, and missing values in each column.
ROWS = ((2, "x", True), (None, "y", False), (1, None, None), (2, "x", True), (-3, "", False), (2, "y", None), (None, None, True))
FRAME = Frame((("a", "int"), ("b", "text"), ("c", "bool")), ROWS)
RIGHT = Frame((("k", "text"), ("e", "int"), ("g", "int")), (("x", 1, 2), ("y", 2, 2), ("x", 3, None), (None, 4, 2), ("x", 5, 1)))
HOUSE = House(s=FRAME, t=RIGHT, none=Frame(FRAME.schema), nothing=Frame(RIGHT.schema))
NONE, NOTHING = ("scan", "none"), ("scan", "nothing")


class ExamplesTest(unittest.TestCase):
    def test_first_example(self):
        house = House(s=Frame((("a", "int"), ("b", "text")), ((2, "x"), (None, "y"), (1, "x"))))
        plans = [("sort", ("scan", "s"), (("a", False),)), ("first", ("scan", "s"), ("b",)),
                 ("running", ("scan", "s"), "n", "sum", "a", ("b",))]
        self.assertEqual(list(map(lambda plan: run(plan, house).rows, plans)),
                         [((2, 'x'), (1, 'x'), (None, 'y')), ((2, 'x'), (None, 'y')), ((2, 'x', 2), (None, 'y', 0), (1, 'x', 3))])

    def test_second_example(self):
        s = Frame((("a", "int"), ("b", "text")), ((2, "x"), (None, "y"), (2, "z")))
        plan = ("join", ("scan", "s"), ("rename", ("scan", "s"), "b", "c"), (("a", "a"),), "left")
        self.assertEqual(result(plan, s=s).rows, ((2, 'x', 'x'), (2, 'x', 'z'), (None, 'y', None), (2, 'z', 'x'), (2, 'z', 'z')))


class ResultsTest(ErrorCase):
    def gives(self, plan, *rows):
        """Asks for the rows of a plan, by run and by result; True is not taken for 1."""
        found = run(plan, HOUSE)
        self.assertIs(type(found), Frame)
        self.assertEqual(repr(found.rows), repr(rows))
        self.assertEqual(result(plan, **{name: HOUSE[name] for name in HOUSE.names}), found)

    def picks(self, plan, *indexes):
        """Asks that a plan gives the rows of the frame with these indexes."""
        self.gives(plan, *[ROWS[index] for index in indexes])

    def test_scan(self):
        self.picks(S, *range(7))
        self.gives(T, *RIGHT.rows)
        self.gives(NONE)

    def test_where(self):
        self.picks(("where", S, ("lt", A, ("value", "int", 2))), 2, 4)
        self.picks(("where", S, ("not", ("lt", A, ("value", "int", 2)))), 0, 3, 5)
        self.picks(("where", S, ("col", "c")), 0, 3, 6)
        self.picks(("where", S, ("not", ("col", "c"))), 1, 4)
        self.picks(("where", S, YES), *range(7))
        self.picks(("where", S, ("value", "bool", False)))
        self.picks(("where", S, ("value", "bool", None)))
        self.picks(("where", S, ("eq", A, A)), 0, 2, 3, 4, 5)
        self.gives(("where", NONE, YES))

    def test_pick(self):
        self.gives(("pick", ("slice", S, 0, 3), ("c", "a")), (True, 2), (False, None), (None, 1))
        self.gives(("pick", ("slice", S, 0, 2), ("b",)), ("x",), ("y",))
        self.picks(("pick", S, ("a", "b", "c")), *range(7))
        self.gives(("pick", NONE, ("b",)))

    def test_rename(self):
        plan = ("rename", S, "b", "z")
        self.picks(plan, *range(7))
        self.assertEqual(run(plan, HOUSE).names, ("a", "z", "c"))
        self.gives(("pick", ("rename", ("rename", ("slice", S, 0, 1), "b", "z"), "a", "b"), ("z", "b")), ("x", 2))
        self.gives(("rename", NONE, "b", "z"))

    def test_with(self):
        top = ("slice", S, 0, 3)
        self.gives(("with", top, "z", ("add", A, TEN)), (2, "x", True, 12), (None, "y", False, None), (1, None, None, 11))
        self.gives(("with", top, "a", ("size", B)), (1, "x", True), (1, "y", False), (None, None, None))
        self.gives(("with", top, "b", ("there", B)), (2, True, True), (None, True, False), (1, False, None))
        self.gives(("with", top, "c", TEN), (2, "x", 10), (None, "y", 10), (1, None, 10))
        self.gives(("with", ("pick", top, ("a",)), "a", ("mul", A, A)), (4,), (None,), (1,))
        self.gives(("with", NONE, "z", TEN))

    def test_sort(self):
        self.picks(("sort", S, (("a", True),)), 4, 2, 0, 3, 5, 1, 6)
        self.picks(("sort", S, (("a", False),)), 0, 3, 5, 2, 4, 1, 6)
        self.picks(("sort", S, (("b", True),)), 4, 0, 3, 1, 5, 2, 6)
        self.picks(("sort", S, (("b", False),)), 1, 5, 0, 3, 4, 2, 6)
        self.picks(("sort", S, (("c", True),)), 1, 4, 0, 3, 6, 2, 5)
        self.picks(("sort", S, (("c", False),)), 0, 3, 6, 1, 4, 2, 5)
        self.gives(("sort", NONE, (("a", True), ("b", False))))

    def test_sort_by_several_keys(self):
        self.picks(("sort", S, (("a", True), ("b", False))), 4, 2, 5, 0, 3, 1, 6)
        self.picks(("sort", S, (("a", True), ("b", True))), 4, 2, 0, 3, 5, 1, 6)
        self.picks(("sort", S, (("a", False), ("c", False))), 0, 3, 5, 2, 4, 6, 1)
        self.picks(("sort", S, (("c", True), ("b", True), ("a", False))), 4, 1, 0, 3, 6, 5, 2)
        self.picks(("sort", S, (("b", True), ("c", False))), 4, 0, 3, 1, 5, 6, 2)

    def test_slice(self):
        for start in range(9):
            self.picks(("slice", S, start, None), *range(start, 7))
            for count in range(9):
                self.picks(("slice", S, start, count), *range(start, min(7, start + count)))
        self.picks(("slice", S, 10 ** 29, None))
        self.picks(("slice", S, 10 ** 29, 10 ** 29))
        self.picks(("slice", S, 5, 10 ** 29), 5, 6)
        self.gives(("slice", NONE, 0, 3))

    def test_first(self):
        self.picks(("first", S, ("a",)), 0, 1, 2, 4)
        self.picks(("first", S, ("b",)), 0, 1, 2, 4)
        self.picks(("first", S, ("c",)), 0, 1, 2)
        self.picks(("first", S, ("b", "a")), 0, 1, 2, 4, 5, 6)
        self.picks(("first", S, ("a", "b", "c")), 0, 1, 2, 4, 5, 6)
        self.picks(("first", ("sort", S, (("a", False),)), ("c",)), 0, 5, 4)
        self.gives(("first", NONE, ("a",)))

    def test_stack(self):
        self.picks(("stack", S, S), *range(7), *range(7))
        self.picks(("stack", ("slice", S, 5, 2), ("slice", S, 1, 2)), 5, 6, 1, 2)
        self.picks(("stack", NONE, ("slice", S, 1, 1)), 1)
        self.picks(("stack", ("slice", S, 1, 1), NONE), 1)
        self.gives(("stack", NONE, NONE))

    def test_inner_join(self):
        self.gives(("join", ("slice", S, 0, 4), T, (("b", "k"),), "inner"), (2, "x", True, 1, 2), (2, "x", True, 3, None),
                   (2, "x", True, 5, 1), (None, "y", False, 2, 2), (2, "x", True, 1, 2), (2, "x", True, 3, None),
                   (2, "x", True, 5, 1))
        self.gives(("join", T, ("rename", S, "b", "z"), (("e", "a"),), "inner"), ("x", 1, 2, None, None), ("y", 2, 2, "x", True),
                   ("y", 2, 2, "x", True), ("y", 2, 2, "y", None))
        for plan in (("join", NONE, T, (("b", "k"),), "inner"), ("join", S, NOTHING, (("b", "k"),), "inner")):
            self.gives(plan)

    def test_left_join(self):
        self.gives(("join", ("slice", S, 2, 5), T, (("b", "k"),), "left"), (1, None, None, None, None), (2, "x", True, 1, 2),
                   (2, "x", True, 3, None), (2, "x", True, 5, 1), (-3, "", False, None, None), (2, "y", None, 2, 2),
                   (None, None, True, None, None))
        self.gives(("join", ("slice", S, 0, 2), NOTHING, (("b", "k"),), "left"), (2, "x", True, None, None),
                   (None, "y", False, None, None))
        self.gives(("join", NONE, T, (("b", "k"),), "left"))

    def test_semi_and_anti_join(self):
        self.picks(("join", S, T, (("b", "k"),), "semi"), 0, 1, 3, 5)
        self.picks(("join", S, T, (("b", "k"),), "anti"), 2, 4, 6)
        self.picks(("join", S, NOTHING, (("b", "k"),), "semi"))
        self.picks(("join", S, NOTHING, (("b", "k"),), "anti"), *range(7))
        self.gives(("join", NONE, T, (("b", "k"),), "semi"))
        self.gives(("join", NONE, T, (("b", "k"),), "anti"))
        self.gives(("join", T, S, (("e", "a"),), "semi"), ("x", 1, 2), ("y", 2, 2))
        self.gives(("join", T, S, (("e", "a"),), "anti"), ("x", 3, None), (None, 4, 2), ("x", 5, 1))

    def test_missing_values_match_nothing(self):
        other = ("rename", ("rename", S, "b", "z"), "c", "y")
        self.picks(("join", S, S, (("a", "a"),), "anti"), 1, 6)
        self.picks(("join", S, S, (("a", "a"), ("b", "b")), "semi"), 0, 3, 4, 5)
        self.picks(("join", S, S, (("a", "a"), ("b", "b"), ("c", "c")), "anti"), 1, 2, 5, 6)
        self.gives(("join", ("slice", S, 1, 1), other, (("a", "a"),), "left"), (None, "y", False, None, None))
        self.gives(("join", ("slice", S, 1, 1), other, (("a", "a"),), "inner"))

    def test_join_by_several_pairs(self):
        pairs = (("b", "k"), ("a", "g"))
        self.gives(("join", S, T, pairs, "inner"), (2, "x", True, 1), (2, "x", True, 1), (2, "y", None, 2))
        self.gives(("join", S, T, pairs[::-1], "inner"), (2, "x", True, 1), (2, "x", True, 1), (2, "y", None, 2))
        self.gives(("join", ("slice", S, 0, 3), T, pairs, "left"), (2, "x", True, 1), (None, "y", False, None),
                   (1, None, None, None))
        self.picks(("join", S, T, pairs, "semi"), 0, 3, 5)
        self.picks(("join", S, T, pairs, "anti"), 1, 2, 4, 6)

    def test_all_columns_of_the_right_input_in_pairs(self):
        pairs = (("c", "c"), ("a", "a"), ("b", "b"))
        self.picks(("join", S, S, pairs, "inner"), 0, 0, 3, 3, 4)
        self.picks(("join", S, S, pairs, "left"), 0, 0, 1, 2, 3, 3, 4, 5, 6)

    def test_a_further_join(self):
        left = ("join", ("pick", ("slice", S, 0, 3), ("a", "b")), T, (("b", "k"),), "left")
        self.gives(("join", left, ("rename", ("pick", S, ("a", "c")), "a", "z"), (("g", "z"),), "left"),
                   (2, "x", 1, 2, True), (2, "x", 1, 2, True), (2, "x", 1, 2, None), (2, "x", 3, None, None),
                   (2, "x", 5, 1, None),
                   (None, "y", 2, 2, True), (None, "y", 2, 2, True), (None, "y", 2, 2, None), (1, None, None, None, None))
        self.gives(("join", left, ("rename", S, "a", "z"), (("g", "z"),), "anti"), (2, "x", 3, None), (1, None, None, None))

    def test_group(self):
        self.gives(("group", S, ("a",), ()), (2,), (None,), (1,), (-3,))
        self.gives(("group", S, ("c", "a"), ()), (True, 2), (False, None), (None, 1), (False, -3), (None, 2), (True, None))
        self.gives(("group", S, ("b",), (("n", "count", "a"), ("m", "there", "a"), ("o", "sum", "a"), ("p", "min", "a"),
                                         ("q", "max", "a"), ("r", "first", "a"), ("t", "last", "a"))),
                   ("x", 2, 2, 4, 2, 2, 2, 2), ("y", 2, 1, 2, 2, 2, None, 2), (None, 2, 1, 1, 1, 1, 1, None),
                   ("", 1, 1, -3, -3, -3, -3, -3))
        self.gives(("group", NONE, ("a",), (("n", "count", "a"),)))

    def test_group_of_missing_values(self):
        functions = ("count", "there", "sum", "min", "max", "first", "last")
        gone = ("where", S, ("not", ("there", A)))
        self.gives(("group", gone, ("a",), tuple((new, function, "a") for new, function in zip("tuvwxyz", functions))),
                   (None, 2, 0, 0, None, None, None, None))

    def test_group_of_texts_and_truth_values(self):
        for name, values in (("b", (7, 5, "", "y", "x", None)), ("c", (7, 5, False, True, True, True))):
            functions = ("count", "there", "min", "max", "first", "last")
            sums = tuple((new, function, name) for new, function in zip("uvwxyz", functions))
            self.gives(("group", ("with", S, "k", TEN), ("k",), sums), (10, *values))

    def test_group_by_what_is_summed(self):
        self.gives(("group", S, ("a",), (("n", "sum", "a"), ("m", "count", "a"))), (2, 6, 3), (None, 0, 2), (1, 1, 1),
                   (-3, -3, 1))

    def test_running(self):
        self.gives(("pick", ("running", S, "n", "count", "a", ()), ("n",)), (1,), (2,), (3,), (4,), (5,), (6,), (7,))
        self.gives(("pick", ("running", S, "n", "there", "a", ()), ("n",)), (1,), (1,), (2,), (3,), (4,), (5,), (5,))
        self.gives(("pick", ("running", S, "n", "sum", "a", ()), ("n",)), (2,), (2,), (3,), (5,), (2,), (4,), (4,))
        self.gives(("pick", ("running", S, "n", "min", "a", ()), ("n",)), (2,), (2,), (1,), (1,), (-3,), (-3,), (-3,))
        self.gives(("pick", ("running", ("slice", S, 1, 6), "n", "max", "a", ()), ("n",)), (None,), (1,), (2,), (2,), (2,), (2,))
        self.gives(("pick", ("running", S, "n", "max", "b", ()), ("n",)), ("x",), ("y",), ("y",), ("y",), ("y",), ("y",), ("y",))
        self.gives(("pick", ("running", S, "n", "min", "c", ()), ("n",)), (True,), (False,), (False,), (False,), (False,),
                   (False,), (False,))
        self.gives(("running", NONE, "n", "sum", "a", ()))

    def test_running_by_columns(self):
        self.gives(("running", S, "n", "sum", "a", ("b",)), (2, "x", True, 2), (None, "y", False, 0), (1, None, None, 1),
                   (2, "x", True, 4),
                   (-3, "", False, -3), (2, "y", None, 2), (None, None, True, 1))
        self.gives(("pick", ("running", S, "n", "count", "c", ("a",)), ("n",)), (1,), (1,), (1,), (2,), (1,), (3,), (2,))
        self.gives(("pick", ("running", S, "n", "min", "b", ("a",)), ("n",)), ("x",), ("y",), (None,), ("x",), ("",), ("x",),
                   ("y",))
        self.gives(("pick", ("running", S, "n", "count", "a", ("a", "c")), ("n",)), (1,), (1,), (1,), (2,), (1,), (1,), (1,))
        self.gives(("pick", ("running", S, "n", "there", "a", ("a",)), ("n",)), (1,), (0,), (1,), (2,), (1,), (3,), (0,))

    def test_melt(self):
        plan = ("with", ("slice", S, 0, 2), "d", ("add", A, TEN))
        self.gives(("melt", plan, ("b",), ("d", "a"), "l", "v"), ("x", "d", 12), ("x", "a", 2), ("y", "d", None),
                   ("y", "a", None))
        self.gives(("melt", plan, (), ("c",), "l", "v"), ("c", True), ("c", False))
        self.gives(("melt", plan, ("c", "b"), ("a",), "l", "v"), (True, "x", "a", 2), (False, "y", "a", None))
        self.gives(("melt", NONE, ("b",), ("a",), "l", "v"))

    def test_melt_with_names_of_melted_columns(self):
        plan = ("with", ("slice", S, 0, 1), "d", TEN)
        self.gives(("melt", plan, ("b",), ("a", "d"), "d", "a"), ("x", "a", 2), ("x", "d", 10))
        self.assertEqual(run(("melt", plan, ("b",), ("a", "d"), "d", "a"), HOUSE).schema,
                         (("b", "text"), ("d", "text"), ("a", "int")))
        self.gives(("where", ("melt", plan, ("b",), ("a", "d"), "d", "a"), ("eq", ("col", "d"), ("value", "text", "a"))),
                   ("x", "a", 2))

    def test_larger_results(self):
        frame = Frame((("a", "int"), ("b", "int")), tuple((0, k) for k in range(300)))
        plan = ("join", S, ("rename", S, "b", "c"), (("a", "a"),), "inner")
        found = result(("group", plan, ("a",), (("n", "count", "b"),)), s=frame)
        self.assertEqual(found.rows, ((0, 90000),))
        long = run(("stack", ("stack", S, S), S), House(s=frame))
        self.assertEqual(run(("slice", S, 899, 5), House(s=long)).rows, ((0, 299),))

    def test_the_document_s_plan(self):
        house = House(sales=Frame((("city", "text"), ("age", "int"), ("price", "int")),
                                  (("Rome", 3, 5), ("Bonn", 4, 1), ("Rome", 9, None))))
        plan = ("group", ("sort", ("scan", "sales"), (("city", True), ("age", False))), ("city",),
                (("n", "count", "age"), ("sum", "sum", "price")))
        self.assertEqual(run(plan, house), Frame((("city", "text"), ("n", "int"), ("sum", "int")),
                                                 (("Bonn", 1, 1), ("Rome", 2, 5))))


class CallsTest(ErrorCase):
    def test_arguments_by_name(self):
        self.assertEqual(run(plan=S, house=HOUSE), FRAME)
        self.assertEqual(run(house=HOUSE, plan=T), RIGHT)
        self.assertEqual(result(S, s=FRAME), FRAME)
        self.assertEqual(result(s=FRAME, the_plan=S, t=RIGHT), FRAME)
        self.assertEqual(result(("scan", "plan"), plan=FRAME, frames=RIGHT, house=RIGHT), FRAME)

    def test_the_house_stays(self):
        house = House(s=FRAME, t=RIGHT)
        before = copy.deepcopy(house)
        for plan, _ in PLAN_TEXTS:
            try:
                first = run(plan, house)
                self.assertEqual(run(plan, house), first)
            except LookupError:
                pass
            self.assertEqual(house, before)
            self.assertIs(house["s"], FRAME)

    def test_the_plan_before_the_house(self):
        self.refuses(InvalidPlan, {"path": ()}, run, None, None)
        self.refuses(InvalidPlan, {"path": (0,)}, run, ("slice", None, 0, 1), HOUSE)
        self.refuses(InvalidPlan, {"path": ()}, result, ["scan", "s"], A=1)
        self.refuses(InvalidPlan, {"path": ()}, result, None, s=None)

    def test_not_a_house(self):
        for value in ANY_VALUES + (FRAME, House, {"s": FRAME}, HOUSE.schemas):
            self.keeps(NotAHouse, "value", value, lambda house: run(("scan", "nos"), house))

    def test_errors_of_house(self):
        self.refuses(InvalidName, {"name": "B"}, result, ("scan", "nos"), B=FRAME, s=FRAME)
        self.refuses(InvalidName, {"name": "B"}, result, ("scan", "nos"), a=1, B=1)
        self.refuses(NotAFrame, {"value": 1}, result, ("scan", "nos"), a=1, b=2)
        self.refuses(NotAFrame, {"value": 1}, result, S, s=1)
        for value in ANY_VALUES:
            self.keeps(NotAFrame, "value", value, lambda wrong: result(("scan", "nos"), s=FRAME, t=wrong))

    def test_errors_of_the_plan_come_last(self):
        self.refuses(UnknownSource, {"name": "nos"}, result, ("scan", "nos"), s=FRAME)
        self.refuses(UnknownColumn, {"name": "z"}, run, ("pick", S, ("z",)), HOUSE)


if __name__ == "__main__":
    unittest.main()
