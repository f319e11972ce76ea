"""Tests of point 13: each rule of rewriting, where it applies and where it does not."""

import unittest

from labelframes.errors import DoesNotApply
from labelframes.frames import Frame, House
from labelframes.plans import node_at, schema_of
from labelframes.rewriting import RULES, rewritten, rules_at
from labelframes.running import run
from tests.cases import A, S, T, YES, ErrorCase, bush_of, chain_of, heap_of
from tests.oracle import Maker

SCHEMAS = (("s", (("a", "int"), ("b", "int"), ("c", "text"), ("p", "bool"))),
           ("t", (("d", "int"), ("e", "int"), ("q", "bool"), ("a", "int"))))
NO = ("value", "bool", False)
NONE = ("value", "bool", None)
P, Q = ("col", "p"), ("col", "q")


def col(name):
    """The expression of a column."""
    return ("col", name)


def num(value):
    """The expression of an integer."""
    return ("value", "int", value)


def lt(*names):
    """An expression with these columns, which are integers."""
    expression = num(2)
    for name in names:
        expression = ("add", expression, col(name))
    return ("lt", expression, num(4))


def where(plan, expression):
    """A plan."""
    return ("where", plan, expression)


def up(*names):
    """Keys of a "sort" by these names."""
    return tuple((name, True) for name in names)


def down(*names):
    """The same, in the other direction."""
    return tuple((name, False) for name in names)


JOIN = ("join", S, ("pick", T, ("d", "e", "q")), (("a", "d"),))
INNER, LEFT, SEMI, ANTI = (JOIN + (how,) for how in ("inner", "left", "semi", "anti"))
GROUP = ("group", S, ("a", "c"), (("n", "sum", "b"), ("m", "count", "p")))
MELT = ("melt", S, ("c", "p"), ("a", "b"), "l", "v")
WITH = ("with", S, "n", ("add", A, num(1)))

# For each rule nodes at which it applies, and what it makes of them.
APPLIES = {
    "where-where": (
        (where(where(S, lt("a")), P), where(S, ("and", lt("a"), P))),
        (where(where(S, NONE), P), where(S, ("and", NONE, P))),
        (where(where(where(S, P), lt("a")), lt("b")), where(where(S, P), ("and", lt("a"), lt("b")))),
        (where(where(INNER, Q), P), where(INNER, ("and", Q, P))),
    ),
    "where-pick": (
        (where(("pick", S, ("b", "a")), lt("a")), ("pick", where(S, lt("a")), ("b", "a"))),
        (where(("pick", S, ("b",)), NO), ("pick", where(S, NO), ("b",))),
        (where(("pick", GROUP, ("n", "a")), lt("n")), ("pick", where(GROUP, lt("n")), ("n", "a"))),
    ),
    "where-rename": (
        (where(("rename", S, "a", "x"), lt("x", "b")), ("rename", where(S, lt("a", "b")), "a", "x")),
        (where(("rename", S, "a", "x"), lt("b")), ("rename", where(S, lt("b")), "a", "x")),
        (where(("rename", S, "p", "x"), ("if", col("x"), ("not", col("x")), ("and", ("there", col("x")), lt("a")))),
         ("rename", where(S, ("if", P, ("not", P), ("and", ("there", P), lt("a")))), "p", "x")),
        (where(("rename", ("rename", S, "a", "x"), "b", "a"), lt("a", "x")),
         ("rename", where(("rename", S, "a", "x"), lt("b", "x")), "b", "a")),
    ),
    "where-with": (
        (where(WITH, lt("a", "b")), ("with", where(S, lt("a", "b")), "n", WITH[3])),
        (where(("with", S, "a", num(1)), lt("b")), ("with", where(S, lt("b")), "a", num(1))),
        (where(WITH, NO), ("with", where(S, NO), "n", WITH[3])),
    ),
    "where-sort": (
        (where(("sort", S, up("a", "b")), lt("b")), ("sort", where(S, lt("b")), up("a", "b"))),
        (where(("sort", S, down("a")), P), ("sort", where(S, P), down("a"))),
        (where(("sort", WITH, down("n")), lt("n")), ("sort", where(WITH, lt("n")), down("n"))),
    ),
    "where-stack": (
        (where(("stack", S, ("slice", S, 1, None)), P), ("stack", where(S, P), where(("slice", S, 1, None), P))),
        (where(("stack", ("stack", S, S), S), NO), ("stack", where(("stack", S, S), NO), where(S, NO))),
    ),
    "where-left": tuple(
        (where(join, e), join[:1] + (where(S, e),) + join[2:])
        for join in (INNER, LEFT, SEMI, ANTI) for e in (lt("a", "b"), P, NO, NONE)
    ),
    "where-right": tuple(
        (where(INNER, e), ("join", S, where(INNER[2], e)) + INNER[3:]) for e in (lt("e"), Q, ("and", Q, lt("e")), NO, YES)
    ),
    "where-group": tuple(
        (where(GROUP, e), ("group", where(S, e)) + GROUP[2:]) for e in (lt("a"), ("and", ("there", col("c")), lt("a")), NO)
    ),
    "where-first": tuple(
        (where(("first", S, ("p", "a")), e), ("first", where(S, e), ("p", "a"))) for e in (P, lt("a"), ("and", P, lt("a")), NONE)
    ),
    "where-melt": tuple(
        (where(MELT, e), ("melt", where(S, e)) + MELT[2:]) for e in (P, ("there", col("c")), ("or", ("there", col("c")), P), NO)
    ) + ((where(("melt", S, (), ("a", "b"), "a", "b"), NO), ("melt", where(S, NO), (), ("a", "b"), "a", "b")),),
    "where-true": tuple(
        (where(plan, YES), plan) for plan in (S, INNER, GROUP, WITH, where(S, P), ("pick", S, ("a",)), ("slice", S, 0, 1))
    ),
    "pick-pick": (
        (("pick", ("pick", S, ("c", "b", "a")), ("a", "c")), ("pick", S, ("a", "c"))),
        (("pick", ("pick", S, ("b", "a")), ("b", "a")), ("pick", S, ("b", "a"))),
    ),
    "pick-all": (
        (("pick", S, ("a", "b", "c", "p")), S),
        (("pick", WITH, ("a", "b", "c", "p", "n")), WITH),
        (("pick", SEMI, ("a", "b", "c", "p")), SEMI),
        (("pick", GROUP, ("a", "c", "n", "m")), GROUP),
        (("pick", ("pick", S, ("b", "a")), ("b", "a")), ("pick", S, ("b", "a"))),
    ),
    "pick-with": (
        (("pick", WITH, ("b", "a")), ("pick", S, ("b", "a"))),
        (("pick", WITH, ("a", "b", "c", "p")), ("pick", S, ("a", "b", "c", "p"))),
        (("pick", ("with", S, "a", YES), ("b", "c")), ("pick", S, ("b", "c"))),
    ),
    "pick-sort": (
        (("pick", ("sort", S, up("a")), ("b", "a")), ("sort", ("pick", S, ("b", "a")), up("a"))),
        (("pick", ("sort", S, (("b", False), ("a", True))), ("a", "c", "b")),
         ("sort", ("pick", S, ("a", "c", "b")), (("b", False), ("a", True)))),
        (("pick", ("sort", S, up("b", "a")), ("a", "b")), ("sort", ("pick", S, ("a", "b")), up("b", "a"))),
    ),
    "sort-sort": (
        (("sort", ("sort", S, up("a")), down("b")), ("sort", S, (("b", False), ("a", True)))),
        (("sort", ("sort", S, up("a")), down("a")), ("sort", S, down("a"))),
        (("sort", ("sort", S, up("c", "a", "p")), down("a", "b")), ("sort", S, down("a", "b") + up("c", "p"))),
        (("sort", ("sort", S, up("a")), up("a")), ("sort", S, up("a"))),
        (("sort", ("sort", S, down("a", "b")), up("b", "a")), ("sort", S, up("b", "a"))),
    ),
    "slice-slice": tuple(
        (("slice", ("slice", S, s, c), t, d), ("slice", S, s + t, n)) for s, c, t, d, n in (
            (1, None, 2, None, None), (1, None, 2, 3, 3), (0, None, 0, 0, 0), (1, 5, 2, None, 3), (1, 5, 5, None, 0),
            (1, 5, 7, None, 0),
            (1, 5, 2, 2, 2), (1, 5, 2, 3, 3), (1, 5, 2, 4, 3), (1, 5, 0, 9, 5), (1, 2, 3, 4, 0), (1, 2, 3, 0, 0),
            (2, 0, 0, None, 0),
            (1, 5, 2, 0, 0), (10 ** 29, 10 ** 29, 1, None, 10 ** 29 - 1))
    ),
    "slice-down": (
        (("slice", ("pick", S, ("b", "a")), 1, 2), ("pick", ("slice", S, 1, 2), ("b", "a"))),
        (("slice", ("rename", S, "a", "x"), 1, None), ("rename", ("slice", S, 1, None), "a", "x")),
        (("slice", WITH, 0, 0), ("with", ("slice", S, 0, 0), "n", WITH[3])),
        (("slice", ("with", INNER, "a", YES), 2, 2), ("with", ("slice", INNER, 2, 2), "a", YES)),
    ),
    "first-first": (
        (("first", ("first", S, ("a",)), ("b", "a")), ("first", S, ("a",))),
        (("first", ("first", S, ("a", "b")), ("b",)), ("first", S, ("b",))),
        (("first", ("first", S, ("a", "b")), ("b", "a")), ("first", S, ("a", "b"))),
        (("first", ("first", S, ("c",)), ("c",)), ("first", S, ("c",))),
    ),
    "fold": (
        (where(S, ("and", YES, P)), where(S, P)),
        (where(S, ("lt", A, ("add", num(1), num(2)))), where(S, ("lt", A, num(3)))),
        (where(S, ("or", P, YES)), where(S, YES)),
        (("with", S, "n", ("mul", num(2), num(3))), ("with", S, "n", num(6))),
        (("with", S, "a", ("else", ("value", "int", None), A)), ("with", S, "a", A)),
        (("with", where(S, YES), "n", ("not", ("not", P))), ("with", where(S, YES), "n", P)),
    ),
}

# For each rule nodes at which just one of its conditions does not hold.
STAYS = {
    "where-where": (where(S, P), ("slice", where(S, P), 0, 1), where(("slice", where(S, P), 0, 1), P)),
    "where-pick": (where(S, P), ("pick", where(S, P), ("a",)), where(("slice", ("pick", S, ("p",)), 0, 1), P)),
    "where-rename": (where(S, P), ("rename", where(S, P), "a", "x")),
    "where-with": (where(WITH, lt("n")), where(WITH, lt("a", "n")), where(("with", S, "a", num(1)), lt("a")),
                   where(WITH, ("or", P, ("not", ("not", ("there", col("n")))))), ("with", where(S, P), "n", P)),
    "where-sort": (where(S, P), ("sort", where(S, P), up("a")), where(("slice", S, 0, 1), P)),
    "where-stack": (where(S, P), ("stack", where(S, P), S)),
    "where-left": tuple(where(join, e) for join in (INNER, LEFT) for e in (lt("e"), lt("a", "e"), Q)) + (where(S, P),),
    "where-right": (where(INNER, lt("a")), where(INNER, lt("e", "a")), where(INNER, P), where(LEFT, Q), where(LEFT, lt("e")),
                    where(LEFT, YES), where(SEMI, NO), where(ANTI, NO), where(SEMI, P), where(ANTI, lt("a"))),
    "where-group": (where(GROUP, lt("n")), where(GROUP, lt("a", "n")), where(GROUP, lt("m")),
                    where(("first", S, ("a",)), lt("a"))),
    "where-first": (where(("first", S, ("a", "c")), P), where(("first", S, ("a", "p")), lt("a", "b")), where(GROUP, lt("a"))),
    "where-melt": (where(MELT, ("there", col("l"))), where(MELT, lt("v")), where(MELT, ("and", P, lt("v"))),
                   where(("melt", S, (), ("a", "b"), "a", "b"), lt("b"))),
    "where-true": (where(S, NO), where(S, NONE), where(S, P), where(S, ("not", NO)), ("with", S, "n", YES)),
    "pick-pick": (("pick", S, ("a",)), ("pick", ("sort", ("pick", S, ("a",)), up("a")), ("a",))),
    "pick-all": (("pick", S, ("a", "b", "c")), ("pick", S, ("b", "a", "c", "p")), ("pick", WITH, ("a", "b", "c", "p")),
                 ("pick", WITH, ("n", "a", "b", "c", "p"))),
    "pick-with": (("pick", WITH, ("n",)), ("pick", WITH, ("a", "n")), ("pick", ("with", S, "a", YES), ("a", "b")),
                  ("pick", S, ("a",))),
    "pick-sort": (("pick", ("sort", S, up("a")), ("b",)), ("pick", ("sort", S, up("a", "b")), ("a", "c")),
                  ("pick", ("sort", S, down("b", "a")), ("a",)), ("sort", ("pick", S, ("a",)), up("a"))),
    "sort-sort": (("sort", S, up("a")), ("sort", ("first", ("sort", S, up("a")), ("a",)), up("a"))),
    "slice-slice": (("slice", S, 0, 1), ("slice", ("first", ("slice", S, 0, 1), ("a",)), 0, 1)),
    "slice-down": tuple(("slice", plan, 1, 2) for plan in (S, where(S, P), ("sort", S, up("a")), ("slice", S, 0, 1),
                                                           ("first", S, ("a",)),
                                                           ("stack", S, S), INNER, LEFT, SEMI, ANTI, GROUP, MELT,
                                                           ("running", S, "n", "sum", "a", ()))),
    "first-first": (("first", ("first", S, ("a",)), ("b",)), ("first", ("first", S, ("a", "b")), ("b", "c")),
                    ("first", ("first", S, ("a", "b", "c")), ("b", "p")), ("first", S, ("a",))),
    "fold": (where(S, P), where(S, YES), where(S, ("and", P, P)), ("with", S, "n", num(1)), ("with", S, "n", ("add", A, num(0))),
             ("slice", where(S, ("not", YES)), 0, 1)),
}

# Plans around a node, each with the path to it; they have a schema with whatever schema the node has.
AROUND = (
    (lambda node: node, ()),
    (lambda node: ("slice", node, 1, 4), (0,)),
    (lambda node: ("stack", node, node), (1,)),
    (lambda node: ("stack", ("where", node, YES), ("slice", node, 0, None)), (1, 0)),
    (lambda node: ("join", ("slice", T, 0, 3), ("group", ("with", node, "zzz", num(2)), ("zzz",), ()), (("d", "zzz"),), "semi"),
     (1, 0, 0)),
)


def houses():
    """Some houses with frames of these schemas."""
    for seed in range(6):
        maker = Maker(seed)
        yield House(**{name: Frame(schema, maker.rows(schema) + maker.rows(schema)) for name, schema in SCHEMAS})


class RuleCase(ErrorCase):
    """A test case that asks whether rules apply."""

    HOUSES = tuple(houses())

    def applies(self, rule, plan, path, expected):
        """Asks that a rule applies and what comes of it."""
        self.assertIn(rule, rules_at(plan, path, SCHEMAS))
        other = rewritten(plan, ((rule, path),), SCHEMAS)
        self.assertEqual(repr(other), repr(expected))
        self.assertEqual(schema_of(other, SCHEMAS), schema_of(plan, SCHEMAS))
        for house in self.HOUSES:
            self.assertEqual(repr(run(other, house).rows), repr(run(plan, house).rows))

    def stays(self, rule, plan, path=()):
        """Asks that a rule does not apply to a plan that has a schema."""
        schema_of(plan, SCHEMAS)
        self.assertNotIn(rule, rules_at(plan, path, SCHEMAS))
        self.refuses(DoesNotApply, {"index": 0}, rewritten, plan, ((rule, path),), SCHEMAS)


class RulesTest(RuleCase):
    def test_rules_in_their_sequence(self):
        self.assertEqual(RULES, (
            "where-where", "where-pick", "where-rename", "where-with", "where-sort", "where-stack", "where-left", "where-right",
            "where-group", "where-first", "where-melt", "where-true", "pick-pick", "pick-all", "pick-with", "pick-sort",
            "sort-sort",
            "slice-slice", "slice-down", "first-first", "fold"))
        self.assertEqual((tuple(APPLIES), tuple(STAYS)), (RULES, RULES))

    def test_where_each_rule_applies(self):
        for rule, cases in APPLIES.items():
            for node, expected in cases:
                for around, path in AROUND:
                    plan = around(node)
                    self.assertEqual(node_at(plan, path), node)
                    other = rewritten(plan, ((rule, path),), SCHEMAS)
                    self.assertEqual(node_at(other, path), expected)
                    self.applies(rule, plan, path, other)

    def test_only_the_node_at_the_path_is_replaced(self):
        node, expected = APPLIES["where-pick"][0]
        self.applies("where-pick", ("stack", node, node), (1,), ("stack", node, expected))
        self.applies("where-pick", ("stack", node, node), (0,), ("stack", expected, node))
        self.applies("where-pick", ("join", ("slice", node, 0, 1), S, (("a", "a"),), "semi"), (0, 0),
                     ("join", ("slice", expected, 0, 1), S, (("a", "a"),), "semi"))

    def test_where_each_rule_does_not_apply(self):
        for rule, nodes in STAYS.items():
            for node in nodes:
                for around, path in AROUND:
                    self.stays(rule, around(node), path)

    def test_no_rule_at_other_forms(self):
        for node in (S, ("rename", S, "a", "x"), ("sort", S, up("a")), ("first", S, ("a",)), ("stack", S, S), INNER, LEFT, SEMI,
                     ANTI,
                     GROUP, MELT, ("running", S, "n", "sum", "a", ("b",)), ("slice", S, 0, 1), ("pick", S, ("a",)), where(S, P),
                     WITH):
            for around, path in AROUND:
                self.assertEqual(rules_at(around(node), path, SCHEMAS), ())

    def test_a_where_over_each_form(self):
        for plan, rules in ((S, ()), (WITH, ("where-with",)), (INNER, ("where-left",)), (LEFT, ("where-left",)),
                            (SEMI, ("where-left",)),
                            (GROUP, ("where-group",)), (("running", S, "n", "sum", "a", ()), ()), (("slice", S, 0, 3), ()),
                            (("first", S, ("a",)), ("where-first",)), (("first", S, ("b",)), ()),
                            (("stack", S, S), ("where-stack",)),
                            (("sort", S, up("b")), ("where-sort",)), (("pick", S, ("a",)), ("where-pick",)),
                            (where(S, P), ("where-where",)),
                            (("rename", S, "b", "x"), ("where-rename",))):
            self.assertEqual(rules_at(where(plan, lt("a")), (), SCHEMAS), rules)
            self.assertEqual(rules_at(where(plan, ("and", YES, lt("a"))), (), SCHEMAS), rules + ("fold",))
        self.assertEqual(rules_at(where(INNER, YES), (), SCHEMAS), ("where-left", "where-right", "where-true"))
        self.assertEqual(rules_at(where(MELT, ("or", P, P)), (), SCHEMAS), ("where-melt",))
        self.assertEqual(rules_at(where(where(S, P), ("not", YES)), (), SCHEMAS), ("where-where", "fold"))

    def test_several_rules_at_one_node(self):
        self.assertEqual(rules_at(("pick", ("pick", S, ("a", "b")), ("a", "b")), (), SCHEMAS), ("pick-pick", "pick-all"))
        self.assertEqual(rules_at(("pick", ("with", S, "a", num(1)), ("a", "b", "c", "p")), (), SCHEMAS), ("pick-all",))
        self.assertEqual(rules_at(("pick", ("sort", S, up("a")), ("a", "b", "c", "p")), (), SCHEMAS), ("pick-all", "pick-sort"))

    def test_columns_of_the_right_input_that_are_named_like_those_of_the_left_one(self):
        join = ("join", ("pick", S, ("a", "b")), ("pick", T, ("a", "e")), (("b", "a"),), "inner")
        self.applies("where-left", where(join, lt("a")), (), ("join", where(join[1], lt("a"))) + join[2:])
        self.stays("where-right", where(join, lt("a")))
        self.applies("where-right", where(join, lt("e")), (), join[:2] + (where(join[2], lt("e")),) + join[3:])


class LimitsTest(RuleCase):
    def test_nodes_of_an_expression(self):
        for one, other in ((20, 19), (19, 20), (3, 36), (36, 3), (1, 38)):
            plan = where(where(S, bush(one)), bush(other))
            self.applies("where-where", plan, (), where(S, ("and", bush(one), bush(other))))
            self.applies("where-where", ("slice", plan, 0, 1), (0,), ("slice", where(S, ("and", bush(one), bush(other))), 0, 1))
        for one, other in ((20, 20), (4, 36), (36, 4), (40, 40), (1, 39), (39, 1)):
            plan = where(where(S, bush(one)), bush(other))
            self.stays("where-where", plan)
            self.stays("where-where", ("stack", S, plan), (1,))

    def test_levels_of_an_expression(self):
        for one, other in ((7, 7), (7, 1), (1, 7)):
            plan = where(where(S, chain(one)), chain(other))
            self.applies("where-where", plan, (), where(S, ("and", chain(one), chain(other))))
        for one, other in ((8, 1), (1, 8), (8, 7), (7, 8)):
            plan = where(where(S, chain(one)), chain(other))
            self.stays("where-where", plan)
            self.stays("where-where", ("slice", plan, 0, 1), (0,))

    def test_nodes_of_a_plan(self):
        small, changed = where(("stack", S, S), P), ("stack", where(S, P), where(S, P))
        for other in (heap(24), ("stack", heap(11), heap(12))):
            self.applies("where-stack", ("stack", other, small), (1,), ("stack", other, changed))
            self.applies("where-stack", ("stack", small, other), (0,), ("stack", changed, other))
        for other in (heap(25), ("stack", heap(12), heap(12))):
            self.stays("where-stack", ("stack", other, small), (1,))
            self.stays("where-stack", ("stack", small, other), (0,))
        self.applies("where-stack", where(("stack", heap(13), heap(14)), P), (),
                     ("stack", where(heap(13), P), where(heap(14), P)))
        self.stays("where-stack", where(("stack", heap(14), heap(14)), P))

    def test_rules_that_need_no_further_node(self):
        for node, rule in ((where(where(S, P), P), "where-where"), (where(("sort", S, up("a")), P), "where-sort"),
                           (where(("slice", S, 0, 1), ("and", P, YES)), "fold"),
                           (("slice", ("slice", S, 0, 1), 0, 1), "slice-slice")):
            self.assertEqual(rules_at(("stack", heap(26), node), (1,), SCHEMAS), (rule,))

    def test_levels_of_a_plan(self):
        plan = ("slice", where(("sort", S, up("a")), P), 0, None)
        for _ in range(8):
            plan = ("first", plan, ("a",))
        self.assertEqual(rules_at(plan, (0,) * 9, SCHEMAS), ("where-sort",))
        self.assertEqual(node_at(rewritten(plan, (("where-sort", (0,) * 9),), SCHEMAS), (0,) * 9), ("sort", where(S, P), up("a")))


def with_p(tree):
    """The expression or the plan with the column p in place of a."""
    if tree == A:
        return P
    return tuple(with_p(item) if isinstance(item, tuple) else item for item in tree)


def bush(nodes):
    """An expression with so many nodes that fits the schemas."""
    return with_p(bush_of(nodes))


def chain(levels):
    """An expression with so many levels that fits the schemas."""
    return with_p(chain_of(levels))


def heap(nodes):
    """A plan with so many nodes that fits the schemas."""
    return with_p(heap_of(nodes))


if __name__ == "__main__":
    unittest.main()
