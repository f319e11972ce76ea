"""Tests of labelframes.checker: which modules it uses, rewritten plans, schemas and folding."""

import os
import re
import unittest

import labelframes
from labelframes.certificates import certify_alike, certify_best
from labelframes.checker import accepts
from labelframes.paths import paths_of
from labelframes.plans import schema_of
from labelframes.rewriting import RULES, best, rewritten, rules_at
from labelframes.verify_rules import plan_behind
from tests.cases import A, ANY_VALUES, EXPRESSION_TEXTS, PLAN_TEXTS, S, T, YES, Odd
from tests.claims import CheckerCase, bent, is_claim_true
from tests.oracle import Maker
from tests.test_rules import APPLIES, AROUND, INNER, P, SCHEMAS, STAYS, bush, chain, heap, lt, up, where
from tests.test_simple import join, number


class ModulesTest(unittest.TestCase):
    FOLDER = os.path.dirname(labelframes.__file__)

    def imported(self, name):
        """The modules of the package that a module imports from."""
        with open(os.path.join(self.FOLDER, name + ".py"), encoding="utf-8") as file:
            return set(re.findall(r"^from labelframes\.(\w+) import", file.read(), re.MULTILINE))

    def test_the_checker_shares_only_the_errors(self):
        reached = {"checker"}
        for _ in range(20):
            reached = reached.union(*[self.imported(name) for name in reached])
        reached -= {"errors"}
        self.assertGreater(len(reached), 3)
        for name in sorted(os.listdir(self.FOLDER)):
            if name.endswith(".py") and name[:-3] not in reached:
                self.assertEqual(self.imported(name[:-3]) & (reached - {"checker"}), set(), name)


class RewrittenTest(CheckerCase):
    def test_no_steps(self):
        for plan in (S, INNER, where(S, P)):
            self.says(True, ("rewritten", plan, plan, SCHEMAS), ())
            self.says(False, ("rewritten", plan, T, SCHEMAS), ())
            self.says(False, ("rewritten", plan, ("slice", plan, 0, None), SCHEMAS), ())

    def test_where_each_rule_applies(self):
        for rule, cases in APPLIES.items():
            for node, expected in cases:
                for around, path in AROUND:
                    plan = around(node)
                    other = rewritten(plan, ((rule, path),), SCHEMAS)
                    self.says(True, ("rewritten", plan, other, SCHEMAS), ((rule, path),))
                    self.says(False, ("rewritten", plan, plan, SCHEMAS), ((rule, path),))
                    self.says(False, ("rewritten", other, plan, SCHEMAS), ((rule, path),))
                    self.says(False, ("rewritten", plan, other, SCHEMAS), ())

    def test_where_each_rule_does_not_apply(self):
        known = dict(SCHEMAS)
        for rule, nodes in STAYS.items():
            for node in nodes:
                for around, path in AROUND:
                    plan = around(node)
                    self.assertIs(plan_behind(plan, (rule, path), known), None)
                    for other in [plan] + [around(wrong) for wrong in wrongly_replaced(node)]:
                        self.says(False, ("rewritten", plan, other, SCHEMAS), ((rule, path),))

    def test_conditions_that_only_seem_to_hold(self):
        # What the rules would give if a condition was left out has a schema, so nothing but the condition speaks against it.
        over = ("with", S, "a", number(1))
        wrong = [("where-with", where(over, lt("a")), ("with", where(S, lt("a")), "a", number(1))),
                 ("where-first", where(("first", S, ("a",)), lt("b")), ("first", where(S, lt("b")), ("a",))),
                 ("where-group", where(("group", S, ("a",), (("b", "sum", "b"),)), lt("b")),
                  ("group", where(S, lt("b")), ("a",), (("b", "sum", "b"),))),
                 ("where-melt", where(("melt", S, ("c",), ("a",), "l", "b"), lt("b")),
                  ("melt", where(S, lt("b")), ("c",), ("a",), "l", "b")),
                 ("where-right", where(INNER[:4] + ("left",), lt("e")), ("join", S, where(INNER[2], lt("e")), INNER[3], "left")),
                 ("where-right", where(INNER[:4] + ("anti",), YES), ("join", S, where(INNER[2], YES), INNER[3], "anti")),
                 ("where-right", where(INNER[:4] + ("semi",), YES), ("join", S, where(INNER[2], YES), INNER[3], "semi")),
                 ("where-right", where(join(("pick", S, ("a", "b")), ("pick", T, ("a", "e")), ("b", "a")), lt("a")),
                  join(("pick", S, ("a", "b")), where(("pick", T, ("a", "e")), lt("a")), ("b", "a"))),
                 ("where-true", where(S, P), S), ("where-true", where(S, ("value", "bool", None)), S),
                 ("pick-with", ("pick", over, ("a",)), ("pick", S, ("a",))),
                 ("pick-all", ("pick", ("rename", S, "a", "z"), ("z", "b", "c", "p")), S),
                 ("slice-down", ("slice", where(S, P), 0, 1), where(("slice", S, 0, 1), P)),
                 ("slice-down", ("slice", ("sort", S, up("a")), 0, 1), ("sort", ("slice", S, 0, 1), up("a"))),
                 ("slice-down", ("slice", ("first", S, ("a",)), 0, 1), ("first", ("slice", S, 0, 1), ("a",))),
                 ("first-first", ("first", ("first", S, ("a",)), ("b",)), ("first", S, ("b",))),
                 ("first-first", ("first", ("first", S, ("a",)), ("b",)), ("first", S, ("a",))),
                 ("first-first", ("first", ("first", S, ("a",)), ("a", "b")), ("first", S, ("a", "b"))),
                 ("sort-sort", ("sort", ("sort", S, up("a")), up("b")), ("sort", S, up("a", "b"))),
                 ("slice-slice", ("slice", ("slice", S, 1, 2), 1, 2), ("slice", S, 2, 2)),
                 ("where-where", where(where(S, P), lt("a")), where(S, ("and", lt("a"), P))),
                 ("fold", where(S, ("and", P, P)), where(S, P)), ("fold", where(S, P), where(S, P)),
                 ("fold", where(S, ("and", P, YES)), where(S, YES))]
        for rule, plan, other in wrong:
            schema_of(other, SCHEMAS)
            self.assertIs(is_claim_true(("rewritten", plan, other, SCHEMAS), ((rule, ()),)), False)
            self.says(False, ("rewritten", plan, other, SCHEMAS), ((rule, ()),))
            self.says(False, ("rewritten", ("stack", plan, plan), ("stack", plan, other), SCHEMAS), ((rule, (1,)),))

    def test_limits_on_the_way(self):
        for plan, path in ((where(where(S, bush(20)), bush(20)), ()), (where(where(S, chain(8)), P), ()),
                           (("slice", where(where(S, P), chain(8)), 0, 1), (0,))):
            node = plan if path == () else plan[1]
            other = where(node[1][1], ("and", node[1][2], node[2]))
            self.says(False, ("rewritten", plan, other if path == () else ("slice", other, 0, 1), SCHEMAS),
                      (("where-where", path),))
        plan = ("stack", heap(25), where(("stack", S, S), P))
        self.says(False, ("rewritten", plan, ("stack", heap(25), ("stack", where(S, P), where(S, P))), SCHEMAS),
                  (("where-stack", (1,)),))
        # The plan behind both steps would be small enough, but the one between them is not.
        big = ("and", bush(35), ("and", YES, P))
        plan = where(where(S, P), big)
        self.says(True, ("rewritten", plan, where(where(S, P), ("and", bush(35), P)), SCHEMAS), (("fold", ()),))
        other = where(S, ("and", P, ("and", bush(35), P)))
        self.says(True, ("rewritten", plan, other, SCHEMAS), (("fold", ()), ("where-where", ())))
        self.says(False, ("rewritten", plan, other, SCHEMAS), (("where-where", ()), ("fold", ())))
        plan = ("stack", heap(23), where(where(("stack", S, S), YES), P))
        stacked = ("stack", where(S, ("and", YES, P)), where(S, ("and", YES, P)))
        self.says(True, ("rewritten", plan, ("stack", heap(23), stacked), SCHEMAS), (("where-where", (1,)), ("where-stack", (1,))))

    def test_random_plans_and_each_step(self):
        for seed in range(150):
            plan, tables = Maker(seed).case()
            schemas = tuple(sorted((name, table[0]) for name, table in tables.items()))
            known = dict(schemas)
            self.says(True, *certify_best(plan, schemas))
            for path in paths_of(plan):
                applying = rules_at(plan, path, schemas)
                for rule in RULES:
                    if rule in applying:
                        other = rewritten(plan, ((rule, path),), schemas)
                        self.says(True, ("rewritten", plan, other, schemas), ((rule, path),))
                    else:
                        self.assertIs(plan_behind(plan, (rule, path), known), None)

    def test_one_thing_otherwise(self):
        plan = where(("pick", ("with", ("sort", S, up("b")), "n", A), ("a", "b", "c", "p")), P)
        steps = (("where-pick", ()), ("where-with", (0,)), ("pick-with", ()), ("where-sort", (0,)), ("pick-all", ()))
        self.stands_alone(("rewritten", plan, rewritten(plan, steps, SCHEMAS), SCHEMAS), steps)
        self.assertEqual(best(plan, SCHEMAS)[0], rewritten(plan, steps, SCHEMAS))
        for seed in range(40):
            plan, tables = Maker(seed).case()
            schemas = tuple(sorted((name, table[0]) for name, table in tables.items()))
            self.stands_alone(*certify_best(plan, schemas), seed, 200)

    def test_other_sequences(self):
        plan = where(("pick", ("with", ("sort", S, up("b")), "n", A), ("a", "b", "c", "p")), P)
        other, steps = best(plan, SCHEMAS)
        for at in range(len(steps)):
            for wrong in (steps[:at] + steps[at + 1:], steps[:at] + steps[at:at + 1] + steps[at:],
                          steps[:at] + steps[at + 1:at + 2] + steps[at:at + 1] + steps[at + 2:], tuple(reversed(steps))):
                if wrong != steps:
                    self.agrees(("rewritten", plan, other, SCHEMAS), wrong)
        self.says(False, ("rewritten", plan, other, SCHEMAS), steps[:-1])
        self.says(False, ("rewritten", plan, other, SCHEMAS), steps + steps[-1:])

    def test_forms_of_steps(self):
        plan, other = where(("pick", S, ("p",)), P), ("pick", where(S, P), ("p",))
        claim = ("rewritten", ("stack", plan, plan), ("stack", plan, other), SCHEMAS)
        self.says(True, claim, (("where-pick", (1,)),))
        for wrong in ANY_VALUES + ((), [("where-pick", (1,))], (["where-pick", (1,)],), (("where-pick", [1]),), (("where-pick", 1),),
                                   (("where-pick", (True,)),), (("where-pick", (1.0,)),), (("where-pick", ("1",)),),
                                   (("where-pick", (2,)),), (("where-pick", (-1,)),), (("where-pick", (1, 1)),),
                                   (("where-pick", (1, 0, 0, 0)),), (("where-pick",),), (("where-pick", (1,), ()),),
                                   ("where-pick", (1,)), (((1,), "where-pick"),), ((("where-pick",), (1,)),), ((Odd(), (1,)),),
                                   (("where-pick", Odd()),), (("where-pick", (Odd(),)),), (Odd(),), (("where-pick", (1,)), None),
                                   (("", (1,)),), (("where", (1,)),), (("Where-pick", (1,)),), (("where-pick ", (1,)),)):
            self.says(False, claim, wrong)
        for path in ((0,) * 1000, (1,) * 90000, (0, 1)):
            self.says(False, claim, (("where-pick", path),))

    def test_no_schema(self):
        for plan, schemas in ((S, ()), (("pick", S, ("zz",)), SCHEMAS), (("scan", "zz"), SCHEMAS), (where(S, A), SCHEMAS),
                              (("stack", S, T), SCHEMAS), (("rename", S, "a", "a"), SCHEMAS)):
            self.says(False, ("rewritten", plan, plan, schemas), ())
        self.says(True, ("rewritten", S, S, SCHEMAS[:1]), ())
        self.says(False, ("rewritten", S, S, SCHEMAS[1:]), ())
        pair = where(("pick", S, ("a",)), YES)
        self.says(True, ("rewritten", pair, pair[1], SCHEMAS), (("where-true", ()),))


def wrongly_replaced(node):
    """What might stand in the place of a node if the conditions of the rules were not asked."""
    found = [node[1]]
    if len(node) > 2 and isinstance(node[1], tuple) and node[1][0] != "scan":
        inner = node[1]
        found += [inner[1], (inner[0], (node[0], inner[1], *node[2:]), *inner[2:]), (node[0], inner[1], *node[2:])]
        if inner[0] in ("join", "stack"):
            found.append((inner[0], inner[1], (node[0], inner[2], *node[2:]), *inner[3:]))
    return found


class SchemasTest(CheckerCase):
    """The checker works out schemas by itself; a claim without steps is true exactly if its plan has one."""

    def test_random_plans(self):
        seen = {True: 0, False: 0}
        for seed in range(300):
            maker = Maker(seed)
            plan, tables = maker.case()
            schemas = tuple(sorted((name, table[0]) for name, table in tables.items()))
            for other in [plan] + [maker.spoiled(plan) for _ in range(6)]:
                seen[self.agrees(("rewritten", other, other, schemas), ())] += 1
        self.assertGreater(min(seen.values()), 300)

    def test_forms(self):
        for plan, _ in PLAN_TEXTS:
            for schemas in (SCHEMAS, (("s", (("a", "bool"), ("b", "bool"), ("c", "text"))), ("t", (("b", "bool"),)))):
                self.agrees(("rewritten", plan, plan, schemas), ())
        columns = (("a", "int"), ("b", "int")), (("a", "text"), ("b", "text")), (("a", "bool"), ("b", "bool")), (("a", "int"), ("b", "text"))
        for expression, _ in EXPRESSION_TEXTS:
            for schema in columns:
                plan = ("with", S, "z", expression)
                self.agrees(("rewritten", plan, plan, (("s", schema),)), ())

    def test_kinds_of_parts(self):
        columns = tuple(("col", name) for name in "abcdef")
        schemas = (("s", tuple(zip("abcdef", ("int", "text", "bool") * 2))),)
        taken = 0
        for word, many in (("add", 2), ("sub", 2), ("mul", 2), ("div", 2), ("mod", 2), ("glue", 2), ("size", 1), ("eq", 2), ("lt", 2),
                           ("le", 2), ("and", 2), ("or", 2), ("not", 1), ("there", 1), ("else", 2), ("if", 3)):
            for one in columns:
                for other in columns[:1] if many == 1 else columns:
                    for third in columns if many == 3 else columns[:1]:
                        plan = ("with", S, "z", (word, *(one, other, third)[:many]))
                        taken += self.agrees(("rewritten", plan, plan, schemas), ())
                        # The kind of the operation is asked by the "eq" around it.
                        for kind in columns[:3]:
                            plan = ("where", S, ("eq", (word, *(one, other, third)[:many]), kind))
                            taken += self.agrees(("rewritten", plan, plan, schemas), ())
        self.assertGreater(taken, 100)

    def test_bent_plans(self):
        for seed in range(60):
            maker = Maker(seed)
            plan, tables = maker.case()
            schemas = tuple(sorted((name, table[0]) for name, table in tables.items()))
            wrongs = list(bent(plan))
            for other in maker.random.sample(wrongs, min(60, len(wrongs))):
                self.agrees(("rewritten", other, other, schemas), ())

    def test_limits(self):
        schemas = (("s", (("a", "bool"),)),)
        for nodes in (1, 39, 40, 41, 60):
            plan = where(S, replaced_p(bush(nodes)))
            self.says(nodes <= 40, ("rewritten", plan, plan, schemas), ())
        for levels in (1, 7, 8, 9, 50):
            plan = where(S, replaced_p(chain(levels)))
            self.says(levels <= 8, ("rewritten", plan, plan, schemas), ())
        for nodes in (1, 29, 30, 31, 50):
            plan = replaced_p(heap(nodes))
            self.says(nodes <= 30, ("rewritten", plan, plan, schemas), ())
        for levels in (1, 11, 12, 13, 55):
            plan = S
            for _ in range(levels - 1):
                plan = ("slice", plan, 0, None)
            self.says(levels <= 12, ("rewritten", plan, plan, schemas), ())

    def test_names(self):
        for name in ("a", "z", "azazazaz", "abcdefghi", "aB", "a1", "a_", "", "\u00e4", "a\n"):
            good = name in ("a", "z", "azazazaz")
            plan = ("scan", name)
            self.says(good, ("rewritten", plan, plan, ((name, (("b", "int"),)),)), ())
            self.says(good, ("rewritten", S, S, (("s", ((name, "int"),)),)), ())
            plan = ("rename", S, "x", name)
            self.says(good, ("rewritten", plan, plan, (("s", (("x", "int"),)),)), ())

    def test_bent_schemas(self):
        for wrong in list(bent(SCHEMAS)):
            self.agrees(("rewritten", S, S, wrong), ())
        self.says(False, ("rewritten", S, S, tuple(reversed(SCHEMAS))), ())
        self.says(False, ("rewritten", S, S, SCHEMAS[:1] * 2), ())


def replaced_p(tree):
    """The tree with the column a in place of p."""
    return tuple(replaced_p(item) if isinstance(item, tuple) else {"p": "a"}.get(item, item) for item in tree)


class FoldingTest(CheckerCase):
    def test_random_expressions(self):
        folded = 0
        for seed in range(600):
            maker = Maker(seed)
            schema = maker.schema()
            expression = maker.expression(schema[:1], maker.random.choice(maker.KINDS), 5)
            plan = ("with", S, "z", expression)
            if is_claim_true(("rewritten", plan, plan, (("s", schema),)), ()):
                if rules_at(plan, (), (("s", schema),)) == ("fold",):
                    folded += 1
                    other = rewritten(plan, (("fold", ()),), (("s", schema),))
                    self.says(True, ("rewritten", plan, other, (("s", schema),)), (("fold", ()),))
                else:
                    self.says(False, ("rewritten", plan, plan, (("s", schema),)), (("fold", ()),))
        self.assertGreater(folded, 50)

    def test_all_operations_of_values(self):
        values = {"int": (None, 0, 1, -7, 3, 10 ** 29), "text": (None, "", "x", "xy"), "bool": (None, True, False)}
        parts = [("value", kind, value) for kind in values for value in values[kind]]
        schemas = (("s", (("a", "int"), ("b", "text"), ("c", "bool"))),)
        done = 0
        for expression in operations(parts):
            plan = ("with", S, "z", expression)
            if is_claim_true(("rewritten", plan, plan, schemas), ()):
                other = rewritten(plan, (("fold", ()),), schemas)
                self.assertEqual(other[3][0], "value")
                self.says(True, ("rewritten", plan, other, schemas), (("fold", ()),))
                done += 1
        self.assertGreater(done, 300)

    def test_one_part_that_is_a_value(self):
        schemas = (("s", (("a", "int"), ("p", "bool"), ("q", "bool"))),)
        q = ("col", "q")
        truths = [("value", "bool", value) for value in (None, True, False)]
        cases = [(word, *pair) for word in ("and", "or") for part in truths for pair in ((part, P), (P, part))]
        cases += [("not", ("not", P)), ("not", ("not", ("not", P))), *[("if", part, P, q) for part in truths],
                  *[("if", part, ("and", P, YES), q) for part in truths], *[("else", part, P) for part in truths],
                  *[("else", P, part) for part in truths], *[("if", P, one, other) for one in truths for other in truths],
                  ("and", ("or", YES, P), q), ("eq", A, A), ("else", number(1), A), ("else", number(None), A)]
        for expression in cases:
            plan = ("with", S, "z", expression)
            if rules_at(plan, (), schemas) == ("fold",):
                other = rewritten(plan, (("fold", ()),), schemas)
                self.says(True, ("rewritten", plan, other, schemas), (("fold", ()),))
                for wrong in (P, q, *truths, A, number(1), expression):
                    if wrong != other[3]:
                        self.says(False, ("rewritten", plan, ("with", S, "z", wrong), schemas), (("fold", ()),))
            else:
                self.assertIs(plan_behind(plan, ("fold", ()), dict(schemas)), None)


def operations(parts):
    """Operations of these parts, of the right kinds or not."""
    for word in ("size", "not", "there"):
        yield from ((word, part) for part in parts)
    for word in ("add", "sub", "mul", "div", "mod", "glue", "eq", "lt", "le", "and", "or", "else"):
        yield from ((word, one, other) for one in parts for other in parts if one[1] == other[1])
    for part in parts:
        if part[1] == "bool":
            yield from (("if", part, one, other) for one in parts[::2] for other in parts[::2] if one[1] == other[1])


if __name__ == "__main__":
    unittest.main()
