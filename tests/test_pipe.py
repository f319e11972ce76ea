"""Tests of class Pipe."""

import unittest

from labelframes.errors import (DoubleColumn, InvalidName, InvalidPlan, InvalidText, NotAHouse, NotAnExpr, NotAPipe, NoText,
                                UnknownColumn, UnknownSource)
from labelframes.expressions import Expr
from labelframes.frames import Frame, House
from labelframes.plans import Pipe
from labelframes.running import run
from tests.cases import A, ANY_VALUES, B, PLAN_TEXTS, S, T, YES, ErrorCase, Odd, bush_of, chain_of, heap_of, tower_of

PIPE, OTHER = Pipe(S), Pipe(("slice", T, 0, None))
TRUE = Expr(YES)
NO_NAMES = ("", "A", "abcdefghi", "a b", None, 1, True, ("a",), ["a"], Odd())


class ExampleTest(unittest.TestCase):
    def test_example(self):
        sales = Frame((("city", "text"), ("price", "int")), (("Rome", 5), ("Bonn", 2), ("Rome", None), ("Bonn", 4)))
        house = House(sales=sales)
        pipe = Pipe.scan("sales").where(Expr.read("lt(1, price)")).group("city", total=("sum", "price"), n=("count", "city"))
        self.assertEqual([pipe(house).schema, pipe(house).rows, str(pipe)],
                         [(('city', 'text'), ('n', 'int'), ('total', 'int')), (('Rome', 1, 5), ('Bonn', 2, 6)),
                          'group(where(scan(sales), lt(1, price)), [city], [n count city, total sum price])'])


class CreatedTest(ErrorCase):
    def test_plan(self):
        for plan, _ in PLAN_TEXTS:
            self.assertIs(Pipe(plan).plan, plan)
            self.assertEqual(Pipe(plan=plan).plan, plan)
        self.assertRaises(AttributeError, setattr, PIPE, "plan", S)

    def test_invalid_plan(self):
        for value in ANY_VALUES + ((), PIPE, ["scan", "s"], A):
            self.refuses(InvalidPlan, {"path": ()}, Pipe, value)
            self.refuses(InvalidPlan, {"path": (1,)}, Pipe, ("stack", S, value))

    def test_scan(self):
        for name in ("a", "abcdefgh", "none", "scan"):
            self.assertEqual(Pipe.scan(name).plan, ("scan", name))
        self.assertEqual(Pipe.scan(source="s"), PIPE)
        for value in [value for value in ANY_VALUES if value != "a" or isinstance(value, Odd)] + [*NO_NAMES, S, PIPE]:
            self.keeps(InvalidName, "name", value, Pipe.scan)

    def test_read(self):
        for plan, text in PLAN_TEXTS:
            self.assertEqual(repr(Pipe.read(text).plan), repr(plan))
        self.assertEqual(Pipe.read(text="scan(s)"), PIPE)
        for value in ANY_VALUES + ("scan(s) ", "scan()", "slice(scan(s), 00, all)", "pick(scan(s), [])", "not(a)", S, PIPE):
            self.keeps(InvalidText, "text", value, Pipe.read)


class StepsTest(ErrorCase):
    def becomes(self, pipe, plan):
        """Asks for the plan of a new Pipe."""
        self.assertIs(type(pipe), Pipe)
        self.assertEqual(repr(pipe.plan), repr(plan))
        self.assertEqual((PIPE.plan, OTHER.plan), (S, ("slice", T, 0, None)))

    def test_where_and_with_column(self):
        expr = Expr.col("a").less(Expr.of(3))
        self.becomes(PIPE.where(expr), ("where", S, expr.tree))
        self.becomes(PIPE.where(expr=TRUE), ("where", S, YES))
        self.becomes(PIPE.with_column("n", expr), ("with", S, "n", expr.tree))
        self.becomes(PIPE.with_column(expr=TRUE, name="a"), ("with", S, "a", YES))

    def test_pick_first_rename_slice(self):
        self.becomes(PIPE.pick("b", "a"), ("pick", S, ("b", "a")))
        self.becomes(PIPE.pick("a"), ("pick", S, ("a",)))
        self.becomes(PIPE.first("b", "a", "c"), ("first", S, ("b", "a", "c")))
        self.becomes(PIPE.rename("a", "b"), ("rename", S, "a", "b"))
        self.becomes(PIPE.rename(new="a", old="b"), ("rename", S, "b", "a"))
        self.becomes(PIPE.slice(2), ("slice", S, 2, None))
        self.becomes(PIPE.slice(2, 0), ("slice", S, 2, 0))
        self.becomes(PIPE.slice(count=3, start=0), ("slice", S, 0, 3))
        self.becomes(PIPE.slice(0, None), ("slice", S, 0, None))

    def test_sorted_by(self):
        self.becomes(PIPE.sorted_by("a"), ("sort", S, (("a", True),)))
        self.becomes(PIPE.sorted_by("b", "a", up=False), ("sort", S, (("b", False), ("a", False))))
        self.becomes(PIPE.sorted_by("b", "a", up=True), ("sort", S, (("b", True), ("a", True))))

    def test_joined(self):
        other = OTHER.plan
        self.becomes(PIPE.joined(OTHER, "a"), ("join", S, other, (("a", "a"),), "inner"))
        self.becomes(PIPE.joined(OTHER, ("a", "k"), how="left"), ("join", S, other, (("a", "k"),), "left"))
        self.becomes(PIPE.joined(OTHER, "b", ("a", "k"), "ab", how="semi"),
                     ("join", S, other, (("b", "b"), ("a", "k"), ("ab", "ab")), "semi"))
        self.becomes(OTHER.joined(PIPE, ("k", "a"), how="anti"), ("join", other, S, (("k", "a"),), "anti"))
        self.becomes(PIPE.joined(PIPE, "a"), ("join", S, S, (("a", "a"),), "inner"))

    def test_group(self):
        self.becomes(PIPE.group("a"), ("group", S, ("a",), ()))
        self.becomes(PIPE.group("b", "a", z=("sum", "a"), n=("count", "b"), ab=("last", "b")),
                     ("group", S, ("b", "a"), (("ab", "last", "b"), ("n", "count", "b"), ("z", "sum", "a"))))
        self.becomes(PIPE.group("a", names=("min", "c"), sums=("max", "c"), a=("first", "a")),
                     ("group", S, ("a",), (("a", "first", "a"), ("names", "min", "c"), ("sums", "max", "c"))))
        self.assertEqual(PIPE.group("a", y=("sum", "b"), x=("sum", "c")), PIPE.group("a", x=("sum", "c"), y=("sum", "b")))

    def test_running(self):
        self.becomes(PIPE.running("n", "sum", "a"), ("running", S, "n", "sum", "a", ()))
        self.becomes(PIPE.running("n", "max", "a", "c", "b"), ("running", S, "n", "max", "a", ("c", "b")))
        self.becomes(PIPE.running(name="a", new="n", function="there"), ("running", S, "n", "there", "a", ()))

    def test_melt(self):
        self.becomes(PIPE.melt("l", "v", "a"), ("melt", S, (), ("a",), "l", "v"))
        self.becomes(PIPE.melt("l", "v", "b", "a", keep=("d", "c")), ("melt", S, ("d", "c"), ("b", "a"), "l", "v"))
        self.becomes(PIPE.melt("l", "v", "b", keep=()), ("melt", S, (), ("b",), "l", "v"))

    def test_stack(self):
        self.becomes(PIPE + OTHER, ("stack", S, OTHER.plan))
        self.becomes(OTHER + PIPE, ("stack", OTHER.plan, S))
        self.becomes(PIPE + PIPE, ("stack", S, S))

    def test_several_steps(self):
        pipe = PIPE.where(TRUE).pick("a").slice(1) + OTHER.rename("k", "a")
        self.becomes(pipe, ("stack", ("slice", ("pick", ("where", S, YES), ("a",)), 1, None), ("rename", OTHER.plan, "k", "a")))


class StepErrorsTest(ErrorCase):
    def refused(self, call, *args, **named):
        """Asks for InvalidPlan with the path of the new step."""
        self.refuses(InvalidPlan, {"path": ()}, call, *args, **named)
        self.assertEqual(PIPE.plan, S)

    def test_not_an_expr(self):
        for value in ANY_VALUES + (A, YES, "a", Expr, PIPE):
            self.keeps(NotAnExpr, "value", value, PIPE.where)
            self.keeps(NotAnExpr, "value", value, lambda wrong: PIPE.with_column("n", wrong))
            self.keeps(NotAnExpr, "value", value, lambda wrong: PIPE.with_column("N", wrong))
            self.keeps(NotAnExpr, "value", value, Pipe(tower_of(12)).where)

    def test_not_a_pipe(self):
        for value in ANY_VALUES + (S, "s", Pipe, TRUE, Frame((("a", "int"),))):
            self.keeps(NotAPipe, "value", value, lambda wrong: PIPE.joined(wrong, "a"))
            self.keeps(NotAPipe, "value", value, lambda wrong: PIPE.joined(wrong, 1, how=2))
            self.keeps(NotAPipe, "value", value, PIPE.joined)
            self.keeps(NotAPipe, "value", value, lambda wrong: Pipe(tower_of(12)).joined(wrong, "a"))

    def test_names(self):
        for wrong in NO_NAMES:
            self.refused(PIPE.with_column, wrong, TRUE)
            self.refused(PIPE.pick, wrong)
            self.refused(PIPE.pick, "a", wrong)
            self.refused(PIPE.first, "a", wrong)
            self.refused(PIPE.rename, wrong, "a")
            self.refused(PIPE.rename, "a", wrong)
            self.refused(PIPE.sorted_by, "a", wrong)
            self.refused(PIPE.joined, OTHER, ("a", wrong))
            self.refused(PIPE.joined, OTHER, (wrong, "a"))
            self.refused(PIPE.joined, OTHER, "b", wrong)
            self.refused(PIPE.group, "a", wrong)
            self.refused(PIPE.group, "a", n=("sum", wrong))
            self.refused(PIPE.running, wrong, "sum", "a")
            self.refused(PIPE.running, "n", "sum", wrong)
            self.refused(PIPE.running, "n", "sum", "a", wrong)
            self.refused(PIPE.melt, wrong, "v", "a")
            self.refused(PIPE.melt, "l", wrong, "a")
            self.refused(PIPE.melt, "l", "v", wrong)
            self.refused(PIPE.melt, "l", "v", "a", keep=(wrong,))

    def test_no_names_and_names_that_come_twice(self):
        for call in (PIPE.pick, PIPE.first, PIPE.sorted_by, PIPE.group, lambda *names: PIPE.joined(OTHER, *names),
                     lambda *names: PIPE.melt("l", "v", *names)):
            self.refused(call)
            self.refused(call, "a", "b", "a")
        self.refused(PIPE.group, n=("count", "a"))
        self.refused(PIPE.running, "n", "sum", "a", "b", "b")
        self.refused(PIPE.melt, "l", "v", "a", keep=("b", "b"))
        self.refused(PIPE.melt, "l", "v", "a", "b", keep=("c", "b"))
        self.refused(PIPE.joined, OTHER, ("a", "b"), ("c", "b"))

    def test_pairs(self):
        for wrong in ((), ("a",), ("a", "b", "c"), ["a", "b"], {"a": "b"}, {"a", "b"}, None, 1, True, ("a", None), (("a", "b"),),
                      b"ab", PIPE):
            self.refused(PIPE.joined, OTHER, wrong)
            self.refused(PIPE.joined, OTHER, "a", wrong, how="left")

    def test_sums(self):
        for wrong in ((), ("sum",), ("sum", "a", "b"), ["sum", "a"], "ab", {"sum": "a"}, None, 1, ("avg", "a"), ("a", "sum"),
                      (sum, "a"), PIPE):
            self.refused(PIPE.group, "a", n=wrong)
            self.refused(PIPE.group, "a", b=("sum", "a"), n=wrong, z=("sum", "a"))
        for new in ("N", "n_m", "abcdefghi"):
            self.refused(PIPE.group, "a", **{new: ("sum", "a")})
        self.refused(PIPE.group, "a", N=None)

    def test_other_arguments(self):
        for wrong in (-1, True, False, None, "0", (0,)):
            self.refused(PIPE.slice, wrong)
            if wrong is not None:
                self.refused(PIPE.slice, 0, wrong)
        for wrong in (1, 0, None, "up", (True,)):
            self.refused(PIPE.sorted_by, "a", up=wrong)
        for wrong in ("outer", "", None, True, ("inner",), Odd()):
            self.refused(PIPE.joined, OTHER, "a", how=wrong)
        for wrong in ("first", "last", "avg", None, sum, Odd()):
            self.refused(PIPE.running, "n", wrong, "a")
        for wrong in ("b", ["b"], None, {"b": 1}, Odd()):
            self.refused(PIPE.melt, "l", "v", "a", keep=wrong)

    def test_limits(self):
        high, large = Pipe(tower_of(12)), Pipe(heap_of(30))
        for pipe in (high, large):
            for call in (lambda: pipe.where(TRUE), lambda: pipe.with_column("a", TRUE), lambda: pipe.pick("a"),
                         lambda: pipe.first("a"),
                         lambda: pipe.rename("a", "b"), lambda: pipe.slice(1), lambda: pipe.sorted_by("a"),
                         lambda: pipe.joined(PIPE, "a"),
                         lambda: PIPE.joined(pipe, "a"), lambda: pipe.group("a"), lambda: pipe.running("n", "sum", "a"),
                         lambda: pipe.melt("l", "v", "a"), lambda: pipe + PIPE, lambda: PIPE + pipe):
                self.refused(call)
        self.assertEqual(len(Pipe(heap_of(14)) + Pipe(heap_of(15))), 30)
        self.refused(lambda: Pipe(heap_of(15)) + Pipe(heap_of(15)))
        self.assertEqual(Pipe(tower_of(11)).where(TRUE).plan, ("where", tower_of(11), YES))
        self.assertEqual(PIPE.where(Expr(chain_of(8))).where(Expr(bush_of(40))).plan,
                         ("where", ("where", S, chain_of(8)), bush_of(40)))

    def test_what_does_not_fit_is_no_error_before_it_is_run(self):
        pipe = PIPE.rename("x", "x").where(Expr.of(1)) + OTHER
        self.assertEqual(len(pipe), 6)


class CalledTest(ErrorCase):
    HOUSE = House(s=Frame((("a", "int"), ("b", "text")), ((2, "x"), (None, "y"), (1, "x"))), t=Frame((("b", "text"),), (("x",),)))

    def test_results(self):
        for pipe, rows in ((PIPE, ((2, "x"), (None, "y"), (1, "x"))), (PIPE.sorted_by("a"), ((1, "x"), (2, "x"), (None, "y"))),
                           (PIPE.joined(Pipe(T), "b", how="anti"), ((None, "y"),)),
                           (PIPE.pick("b") + Pipe(T), (("x",), ("y",), ("x",), ("x",))),
                           (PIPE.slice(5), ())):
            self.assertIs(type(pipe(self.HOUSE)), Frame)
            self.assertEqual(pipe(self.HOUSE).rows, rows)
            self.assertEqual(pipe(house=self.HOUSE), run(pipe.plan, self.HOUSE))

    def test_errors(self):
        for value in ANY_VALUES + (Frame((("a", "int"),)), House, {"s": 1}, PIPE):
            self.keeps(NotAHouse, "value", value, PIPE)
            self.keeps(NotAHouse, "value", value, Pipe.scan("nos"))
        self.refuses(UnknownSource, {"name": "nos"}, Pipe.scan("nos"), self.HOUSE)
        self.refuses(UnknownColumn, {"name": "z"}, PIPE.rename("z", "a"), self.HOUSE)
        self.refuses(DoubleColumn, {"name": "a"}, PIPE.rename("a", "a"), self.HOUSE)


class ShownTest(ErrorCase):
    def test_text(self):
        for plan, text in PLAN_TEXTS:
            self.assertEqual(str(Pipe(plan)), text)
            self.assertEqual(Pipe.read(str(Pipe(plan))), Pipe(plan))

    def test_no_text(self):
        for name in ("yes", "no", "none"):
            pipe = PIPE.where(Expr.col(name)).slice(0)
            self.refuses(NoText, {}, str, pipe)
            self.refuses(NoText, {}, str, OTHER + pipe)
            self.assertEqual(repr(pipe), "Pipe(3 nodes)")

    def test_length_repr_and_truth(self):
        for plan, nodes in ((S, 1), (("where", S, bush_of(40)), 2), (("stack", S, S), 3),
                            (("stack", ("pick", T, ("a",)), ("stack", S, T)), 6),
                            (heap_of(30), 30), (tower_of(12), 12)):
            self.assertEqual((len(Pipe(plan)), repr(Pipe(plan)), bool(Pipe(plan))), (nodes, f"Pipe({nodes} nodes)", True))

    def test_equal(self):
        pipe = PIPE.slice(1)
        self.assertIs(pipe == Pipe(("slice", S, 1, None)), True)
        self.assertIs(pipe != Pipe(("slice", S, 1, None)), False)
        for other in (PIPE, PIPE.slice(0), PIPE.slice(1, 1), pipe.plan, str(pipe), TRUE, Expr(A), Odd(), *ANY_VALUES):
            self.assertIs(pipe == other, False)
            self.assertIs(pipe != other, True)
        self.assertIs(Pipe(("where", S, B)) == Pipe(("where", S, A)), False)

    def test_methods_stand_in_the_class(self):
        for name in ("__init__", "scan", "read", "plan", "where", "with_column", "pick", "first", "rename", "slice", "sorted_by",
                     "joined",
                     "group", "running", "melt", "__add__", "__call__", "__str__", "__len__", "__repr__", "__eq__"):
            self.assertIn(name, vars(Pipe))


if __name__ == "__main__":
    unittest.main()
