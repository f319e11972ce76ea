"""Tests of points 8 and 11: what is an expression and what is a plan, with the paths of InvalidExpression and InvalidPlan."""

import unittest

from labelframes.errors import InvalidExpression, InvalidPlan, NoText
from labelframes.notation import expression_text, plan_text
from tests.cases import (A, ANY_VALUES, B, EXPRESSION_TEXTS, PLAN_TEXTS, S, T, YES, ErrorCase, Odd, bush_of, chain_of,
                         heap_of, tower_of)

PARTS = {"add": 2, "sub": 2, "mul": 2, "div": 2, "mod": 2, "glue": 2, "size": 1, "eq": 2, "lt": 2, "le": 2, "and": 2, "or": 2,
         "not": 1, "there": 1, "if": 3, "else": 2}
WRONG_NAMES = ("", "abcdefghi", "A", "a1", "a b", "a\n", None, True, 1, b"a", ("a",), ["a"], Odd())
WRONG_NAME_TUPLES = ("a", "ab", ["a"], None, True, {"a": 1}, ("a", "a"), ("a", "b", "a"), Odd()) + tuple(
    [(name,) for name in WRONG_NAMES] + [("b", name) for name in WRONG_NAMES])
NO_EXPRESSIONS = ANY_VALUES + (
    (), ("col",), ("col", "a", "b"), ["col", "a"], ("Col", "a"), ("a", "col"), (("col", "a"),), (None, "a"), (["col"], "a"),
    (Odd(), "a"), (b"col", "a"), ("value", 1), ("value", "int"), ("value", "int", 1, 1), ("value", "int", True),
    ("value", "int", "1"), ("value", "int", (1,)), ("value", "int", [1]), ("value", "bool", 1), ("value", "bool", 0),
    ("value", "bool", "yes"), ("value", "text", 1), ("value", "text", "a\n"), ("value", "text", "\x7f"),
    ("value", "text", "\u00e4"), ("value", "text", b"a"), ("value", "none", None), ("value", None, None),
    ("value", ["int"], 1), ("value", Odd(), 1), ("scan", "s"), ("where", S, A), ("xor", A, B), ("neg", A), ("", A),
) + tuple([("col", name) for name in WRONG_NAMES])


class ExpressionFormsTest(ErrorCase):
    def refused(self, path, expression):
        self.refuses(InvalidExpression, {"path": path}, expression_text, expression)

    def test_forms(self):
        for expression, _ in EXPRESSION_TEXTS:
            expression_text(expression)

    def test_none_of_the_forms(self):
        for wrong in NO_EXPRESSIONS:
            self.refused((), wrong)
            self.refused((0,), ("not", wrong))
            self.refused((1,), ("and", A, wrong))
            self.refused((2,), ("if", A, B, wrong))
            self.refused((1, 0), ("else", YES, ("add", wrong, wrong)))

    def test_number_of_parts(self):
        for word, parts in PARTS.items():
            expression_text((word,) + (A,) * parts)
            for wrong in (0, parts - 1, parts + 1, 4):
                self.refused((), (word,) + (A,) * wrong)
                self.refused((0,), ("not", (word,) + (A,) * wrong))
            self.refused((), [word] + [A] * parts)

    def test_first_one_counts(self):
        self.refused((0,), ("and", None, None))
        self.refused((0, 1), ("and", ("or", A, None), None))
        self.refused((1,), ("and", ("or", A, B), ("or", None)))
        self.refused((), ("and", None))
        self.refused((0,), ("and", ("or", None), None))
        self.refused((1, 2, 0), ("add", A, ("if", A, B, ("not", ["col", "a"]))))
        self.refused((0, 0, 0, 0), ("not", ("not", ("not", ("not", 1)))))

    def test_levels(self):
        expression_text(chain_of(8))
        for levels in (9, 10, 60):
            self.refused((), chain_of(levels))
        self.refused((), ("and", A, chain_of(8)))

    def test_nodes(self):
        expression_text(bush_of(40))
        for nodes in (41, 42, 100, 127):
            self.refused((), bush_of(nodes))

    def test_wrong_form_before_limits(self):
        deep = None
        for _ in range(59):
            deep = ("not", deep)
        self.refused((0,) * 59, deep)
        self.refused((1,), ("and", bush_of(60), None))
        self.refused((0, 1), ("and", ("or", bush_of(60), None), None))

    def test_many_nodes(self):
        wide = bush_of(30000)
        self.refused((), wide)
        self.refused((1,), ("and", wide, ("and", wide)))

    def test_larger_numbers_and_texts_are_no_error(self):
        expression_text(("add", ("value", "int", 10 ** 40), ("size", ("value", "text", "x" * 100))))


class PlanFormsTest(ErrorCase):
    def refused(self, path, plan):
        self.refuses(InvalidPlan, {"path": path}, plan_text, plan)

    def wrong_node(self, node):
        """Asks that a node is of none of the forms, wherever it stands."""
        self.refused((), node)
        self.refused((0,), ("first", node, ("a",)))
        self.refused((1,), ("stack", S, node))
        self.refused((0, 1), ("pick", ("join", S, node, (("a", "a"),), "inner"), ("a",)))

    def test_forms(self):
        for plan, _ in PLAN_TEXTS:
            plan_text(plan)

    def test_none_of_the_forms(self):
        for wrong in ANY_VALUES + ((), ("scan",), ("scan", "s", "t"), ["scan", "s"], ("Scan", "s"), ("s", "scan"), (S,),
                                   (None, S), (["scan"], "s"), (Odd(), "s"), A, YES, ("not", S), ("and", S, S), ("union", S, S)):
            self.wrong_node(wrong)

    def test_number_of_fields(self):
        for plan, _ in PLAN_TEXTS:
            self.wrong_node(plan[:-1])
            self.wrong_node(plan + ("a",))
            self.wrong_node(plan + ((),))
            self.wrong_node(list(plan))

    def test_names(self):
        for wrong in WRONG_NAMES:
            for node in (("scan", wrong), ("rename", S, wrong, "b"), ("rename", S, "a", wrong), ("with", S, wrong, A),
                         ("running", S, wrong, "sum", "a", ()), ("running", S, "n", "sum", wrong, ()),
                         ("melt", S, (), ("a",), wrong, "v"), ("melt", S, (), ("a",), "l", wrong)):
                self.wrong_node(node)

    def test_name_tuples(self):
        for wrong in WRONG_NAME_TUPLES:
            for node in (("pick", S, wrong), ("first", S, wrong), ("group", S, wrong, ()),
                         ("running", S, "n", "sum", "a", wrong), ("melt", S, wrong, ("x",), "l", "v"),
                         ("melt", S, ("x",), wrong, "l", "v")):
                self.wrong_node(node)
        for node in (("pick", S, ()), ("first", S, ()), ("group", S, (), ()), ("melt", S, ("a",), (), "l", "v")):
            self.wrong_node(node)

    def test_kept_columns_are_not_melted(self):
        self.wrong_node(("melt", S, ("a",), ("a",), "l", "v"))
        self.wrong_node(("melt", S, ("c", "b"), ("a", "b"), "l", "v"))
        plan_text(("melt", S, ("a",), ("b",), "a", "a"))

    def test_expressions(self):
        for wrong in NO_EXPRESSIONS + (("not", None), ("and", A), chain_of(9), bush_of(41), bush_of(30000)):
            self.wrong_node(("where", S, wrong))
            self.wrong_node(("with", S, "n", wrong))
        plan_text(("where", S, chain_of(8)))
        plan_text(("with", S, "n", bush_of(40)))

    def test_keys(self):
        for wrong in ((), None, "a", ("a",), ("a", True), [("a", True)], (["a", True],), (("a",),), (("a", True, True),),
                      (("a", 1),), (("a", 0),), (("a", None),), (("a", "up"),), (("a", Odd()),), ((True, "a"),),
                      (("a", True), ("a", False)), (("a", True), ("b", False), ("a", True)), (("a", True), None)):
            self.wrong_node(("sort", S, wrong))
        for wrong in WRONG_NAMES:
            self.wrong_node(("sort", S, (("b", True), (wrong, True))))

    def test_numbers(self):
        for wrong in (True, False, -1, "0", None, (0,), [0], "all", Odd()):
            self.wrong_node(("slice", S, wrong, 1))
            if wrong is not None:
                self.wrong_node(("slice", S, 1, wrong))

    def test_pairs(self):
        for wrong in ((), None, "ab", ("a", "b"), ("ab",), [("a", "b")], (["a", "b"],), (("a",),), (("a", "b", "c"),),
                      (("a", "b"), ("a", "c")), (("a", "b"), ("c", "b")), (("a", "b"), ("a", "b")), (("a", "b"), None)):
            self.wrong_node(("join", S, T, wrong, "inner"))
        for wrong in WRONG_NAMES:
            self.wrong_node(("join", S, T, (("a", wrong),), "left"))
            self.wrong_node(("join", S, T, (("b", "b"), (wrong, "a")), "left"))

    def test_words(self):
        for wrong in ("", "outer", "Inner", "count", None, True, ("inner",), ["inner"], b"inner", Odd()):
            self.wrong_node(("join", S, T, (("a", "a"),), wrong))
        for wrong in ("", "first", "last", "Sum", "avg", "inner", None, True, sum, ("sum",), ["sum"], Odd()):
            self.wrong_node(("running", S, "n", wrong, "a", ()))
        for wrong in ("", "Sum", "avg", "inner", None, True, sum, ("sum",), ["sum"], Odd()):
            self.wrong_node(("group", S, ("a",), (("n", wrong, "a"),)))

    def test_sums(self):
        for wrong in (None, "", ("n", "sum", "a"), [("n", "sum", "a")], (["n", "sum", "a"],), (("n", "sum"),),
                      (("n", "sum", "a", "b"),), (("sum", "a", "n"),), (("n", "sum", "a"), None), Odd()):
            self.wrong_node(("group", S, ("a",), wrong))
        for wrong in WRONG_NAMES:
            self.wrong_node(("group", S, ("a",), (("m", "sum", "a"), (wrong, "sum", "a"))))
            self.wrong_node(("group", S, ("a",), (("n", "sum", wrong),)))

    def test_first_one_counts(self):
        self.refused((), ("stack", None))
        self.refused((0,), ("stack", None, None))
        self.refused((0,), ("stack", ("pick", None, ()), None))
        self.refused((0, 0), ("stack", ("pick", None, ("a",)), None))
        self.refused((1,), ("stack", ("pick", S, ("a",)), None))
        self.refused((1, 0, 1), ("stack", T, ("where", ("join", S, ["scan", "s"], (("a", "a"),), "semi"), A)))
        self.refused((), ("where", None, ("not", None)))

    def test_levels(self):
        plan_text(tower_of(12))
        for levels in (13, 14, 50):
            self.refused((), tower_of(levels))
        self.refused((), ("stack", S, tower_of(12)))

    def test_nodes(self):
        plan_text(heap_of(30))
        for nodes in (31, 32, 60, 100):
            self.refused((), heap_of(nodes))

    def test_wrong_form_before_limits(self):
        deep = None
        for _ in range(50):
            deep = ("first", deep, ("a",))
        self.refused((0,) * 50, deep)
        self.refused((1,), ("stack", heap_of(60), None))
        self.refused((1, 0), ("stack", tower_of(20), ("where", ("where", S, chain_of(9)), A)))

    def test_limit_of_an_expression_is_that_of_its_node(self):
        self.refused((1,), ("stack", S, ("where", T, chain_of(9))))
        self.refused((0,), ("stack", ("with", T, "n", bush_of(41)), ("where", T, chain_of(9))))

    def test_expressions_do_not_count_as_nodes(self):
        plan = S
        for _ in range(11):
            plan = ("where", plan, bush_of(40))
        plan_text(plan)

    def test_invalid_before_no_text(self):
        none = ("where", S, ("col", "none"))
        self.raised(NoText, plan_text, none)
        self.refused((1,), ("stack", none, None))
        self.refuses(InvalidExpression, {"path": (1,)}, expression_text, ("and", ("col", "none"), None))


if __name__ == "__main__":
    unittest.main()
