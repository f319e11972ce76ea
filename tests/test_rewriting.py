"""Tests of point 14 and of labelframes.rewriting: steps, and the plan that `best` returns."""

import unittest

from labelframes.errors import (DoesNotApply, InvalidPath, InvalidPlan, InvalidSchemas, InvalidSteps, UnknownColumn,
                                UnknownSource)
from labelframes.forms import plan_fault
from labelframes.frames import Frame, House
from labelframes.paths import paths_of
from labelframes.plans import schema_of
from labelframes.rewriting import RULES, best, rewritten, rules_at
from labelframes.running import run
from tests.cases import A, ANY_VALUES, S, T, YES, ErrorCase, Odd
from tests.oracle import Maker
from tests.test_rules import APPLIES, P, SCHEMAS, STAYS, bush, heap, up, where

TEST = ("lt", ("col", "a"), ("add", ("value", "int", 1), ("value", "int", 2)))


class ExampleTest(unittest.TestCase):
    def test_example(self):
        schemas = (("s", (("a", "int"), ("b", "int"))),)
        plan = ("where", ("pick", ("with", ("scan", "s"), "c", ("col", "b")), ("a", "b")), TEST)
        self.assertEqual([rules_at(plan, (), schemas), rules_at(plan, (0,), schemas), best(plan, schemas)[0]],
                         [('where-pick', 'fold'), ('pick-with',),
                          ('where', ('scan', 's'), ('lt', ('col', 'a'), ('value', 'int', 3)))])

    def test_certificate_example(self):
        schemas = (("r", (("a", "int"),)),)
        plan = ("where", ("where", ("scan", "r"), ("eq", ("col", "a"), ("value", "int", 1))),
                ("eq", ("value", "int", 1), ("col", "a")))
        self.assertEqual(best(plan, schemas)[1], (("where-where", ()),))


class RewrittenTest(ErrorCase):
    PLAN = where(("pick", ("with", ("sort", S, up("b")), "n", A), ("a", "b", "c", "p")), P)

    def test_no_steps(self):
        self.assertEqual(rewritten(self.PLAN, (), SCHEMAS), self.PLAN)

    def test_several_steps(self):
        steps = (("where-pick", ()), ("where-with", (0,)), ("pick-with", ()), ("where-sort", (0,)), ("pick-all", ()))
        expected = ("sort", where(S, P), up("b"))
        self.assertEqual(rewritten(self.PLAN, steps, SCHEMAS), expected)
        self.assertEqual(rewritten(schemas=SCHEMAS, steps=steps, plan=self.PLAN), expected)
        other = self.PLAN
        for step in steps:
            other = rewritten(other, (step,), SCHEMAS)
        self.assertEqual(other, expected)

    def test_the_same_step_again(self):
        plan = where(where(where(S, P), P), P)
        self.assertEqual(rewritten(plan, (("where-where", ()),) * 2, SCHEMAS), where(S, ("and", P, ("and", P, P))))
        self.refuses(DoesNotApply, {"index": 2}, rewritten, plan, (("where-where", ()),) * 3, SCHEMAS)

    def test_does_not_apply(self):
        good = ("where-pick", ())
        for steps, index in (((("fold", ()),), 0), ((good, good), 1), ((good, ("fold", ())), 1), ((("pick-with", ()),), 0),
                             ((good, ("where-with", (0,)), ("where-sort", (0, 0, 0)), ("where-sort", (0, 0))), 2),
                             ((good, ("where-pick", (1,)), ("fold", ())), 1), ((("where-pick", (0,)),), 0)):
            self.refuses(DoesNotApply, {"index": index}, rewritten, self.PLAN, steps, SCHEMAS)

    def test_paths_that_lead_to_no_node(self):
        for path in ((1,), (0, 1), (0, 0, 0, 0, 0), (0,) * 1000, (1,) * 90000):
            for rule in RULES:
                self.refuses(DoesNotApply, {"index": 0}, rewritten, self.PLAN, ((rule, path),), SCHEMAS)
                self.refuses(DoesNotApply, {"index": 1}, rewritten, self.PLAN, (("where-pick", ()), (rule, path)), SCHEMAS)

    def test_invalid_steps(self):
        for value in ANY_VALUES:
            if not isinstance(value, tuple):
                self.refuses(InvalidSteps, {"index": None}, rewritten, self.PLAN, value, SCHEMAS)
        self.refuses(InvalidSteps, {"index": None}, rewritten, self.PLAN, [("fold", ())], SCHEMAS)
        for wrong in ANY_VALUES + ((), ("fold",), ("fold", (), ()), ["fold", ()], ((), "fold"), ("Fold", ()), ("where", ()),
                                   ("", ()),
                                   (None, ()), (RULES, ()), (["fold"], ()), (Odd(), ()), ("fold", None), ("fold", []),
                                   ("fold", [0]),
                                   ("fold", 0), ("fold", ""), ("fold", (2,)), ("fold", (-1,)), ("fold", (True,)),
                                   ("fold", (False,)),
                                   ("fold", (0, None)), ("fold", ("0",)), ("fold", ((0,),)), ("fold", (0, Odd())),
                                   ("fold", Odd())):
            self.refuses(InvalidSteps, {"index": 0}, rewritten, self.PLAN, (wrong,), SCHEMAS)
            self.refuses(InvalidSteps, {"index": 1}, rewritten, self.PLAN, (("fold", (1, 1)), wrong), SCHEMAS)
            self.refuses(InvalidSteps, {"index": 0}, rewritten, self.PLAN, (wrong, wrong), SCHEMAS)

    def test_parameters_in_their_sequence(self):
        no = ("pick", S, ("zz",))
        self.refuses(InvalidPlan, {"path": ()}, rewritten, None, None, None)
        self.refuses(InvalidSteps, {"index": None}, rewritten, no, None, None)
        self.refuses(InvalidSteps, {"index": 0}, rewritten, no, (None,), None)
        self.refuses(InvalidSchemas, {"index": None}, rewritten, no, (("fold", (1,)),), None)
        self.refuses(UnknownColumn, {"name": "zz"}, rewritten, no, (("fold", (1,)),), SCHEMAS)
        self.refuses(UnknownSource, {"name": "s"}, rewritten, no, (), ())
        self.refuses(DoesNotApply, {"index": 0}, rewritten, S, (("fold", (1,)),), SCHEMAS)


class RulesAtTest(ErrorCase):
    def test_arguments_by_name(self):
        plan = where(("pick", S, ("p",)), P)
        self.assertEqual(rules_at(plan=plan, path=(), schemas=SCHEMAS), ("where-pick",))
        self.assertEqual(rules_at(plan, schemas=SCHEMAS, path=(0,)), ())

    def test_parameters_in_their_sequence(self):
        no = ("pick", S, ("zz",))
        self.refuses(InvalidPlan, {"path": ()}, rules_at, None, None, None)
        self.refuses(InvalidPath, {"path": None}, rules_at, no, None, None)
        self.refuses(InvalidPath, {"path": (0, 0)}, rules_at, no, (0, 0), None)
        self.refuses(InvalidSchemas, {"index": None}, rules_at, no, (0,), None)
        self.refuses(UnknownColumn, {"name": "zz"}, rules_at, no, (0,), SCHEMAS)

    def test_a_node_elsewhere_has_an_error(self):
        plan = ("stack", where(("sort", S, up("a")), P), ("slice", ("scan", "nos"), 0, 1))
        self.refuses(UnknownSource, {"name": "nos"}, rules_at, plan, (0,), SCHEMAS)
        self.refuses(UnknownSource, {"name": "nos"}, best, plan, SCHEMAS)


class BestTest(ErrorCase):
    def finds(self, plan, schemas, houses):
        """Asks for everything that is said of `best`."""
        other, steps = best(plan, schemas)
        self.assertEqual(best(plan=plan, schemas=schemas), (other, steps))
        self.assertEqual(rewritten(plan, steps, schemas), other)
        for path in paths_of(other):
            self.assertEqual(rules_at(other, path, schemas), ())
        self.follows(plan, steps, schemas, houses)
        return other

    def follows(self, plan, steps, schemas, houses):
        """Asks that the plans behind each of these steps are plans with the same schema and the same results."""
        schema, frames = schema_of(plan, schemas), [run(plan, house) for house in houses]
        for step in steps:
            self.assertIn(step[0], rules_at(plan, step[1], schemas))
            plan = rewritten(plan, (step,), schemas)
            self.assertIsNone(plan_fault(plan))
            self.assertEqual(schema_of(plan, schemas), schema)
            for house, frame in zip(houses, frames):
                self.assertEqual(repr(run(plan, house).rows), repr(frame.rows))

    def test_plans_of_each_rule(self):
        house = House(**{name: Frame(schema, Maker(7).rows(schema) * 2) for name, schema in SCHEMAS})
        for cases in APPLIES.values():
            for node, _ in cases:
                self.assertNotEqual(self.finds(node, SCHEMAS, [house]), node)
        for nodes in STAYS.values():
            for node in nodes:
                self.finds(node, SCHEMAS, [house])

    def test_nothing_to_do(self):
        for plan in (S, ("stack", S, S), where(S, P), ("join", S, T, (("a", "a"),), "semi")):
            self.assertEqual(best(plan, SCHEMAS), (plan, ()))

    def test_what_it_finds(self):
        for plan, expected in (
                (where(("pick", ("sort", S, up("a")), ("a", "p")), ("and", P, YES)),
                 ("sort", ("pick", where(S, P), ("a", "p")), up("a"))),
                (where(("stack", where(S, P), S), YES), ("stack", where(S, P), S)),
                (("slice", ("slice", ("rename", ("pick", S, ("a",)), "a", "x"), 1, 5), 1, 2),
                 ("rename", ("pick", ("slice", S, 2, 2), ("a",)), "a", "x")),
                (("sort", ("sort", ("sort", S, up("a")), up("b")), up("a")), ("sort", S, up("a", "b"))),
                (("first", ("first", ("first", S, ("a", "b")), ("a",)), ("a", "c")), ("first", S, ("a",)))):
            self.assertEqual(best(plan, SCHEMAS)[0], expected)

    def test_limits_stand_in_the_way(self):
        plan = where(where(where(S, bush(20)), bush(20)), bush(19))
        self.assertEqual(self.finds(plan, SCHEMAS, []), where(where(S, bush(20)), ("and", bush(20), bush(19))))
        plan = where(("stack", heap(14), heap(14)), P)
        self.assertEqual(best(plan, SCHEMAS), (plan, ()))

    def test_random_plans(self):
        for seed in range(150):
            maker = Maker(seed)
            plan, tables = maker.case()
            schemas = tuple((name, tables[name][0]) for name in sorted(tables))
            houses = [House(**{name: Frame(schema, rows) for name, (schema, rows) in tables.items()}),
                      House(**{name: Frame(schema, maker.rows(schema)) for name, (schema, _) in tables.items()})]
            self.finds(plan, schemas, houses)
            self.wanders(plan, schemas, houses, maker)

    def wanders(self, plan, schemas, houses, maker):
        """Asks the same of steps in any sequence, until none is left."""
        steps, other = [], plan
        while True:
            choices = [(rule, path) for path in paths_of(other) for rule in rules_at(other, path, schemas)]
            if not choices:
                break
            steps.append(maker.random.choice(choices))
            other = rewritten(other, (steps[-1],), schemas)
            self.assertLess(len(steps), 500)
        self.assertEqual(rewritten(plan, tuple(steps), schemas), other)
        self.follows(plan, steps, schemas, houses)

    def test_parameters_in_their_sequence(self):
        no = ("pick", S, ("zz",))
        self.refuses(InvalidPlan, {"path": ()}, best, None, None)
        self.refuses(InvalidSchemas, {"index": None}, best, no, None)
        self.refuses(UnknownColumn, {"name": "zz"}, best, no, SCHEMAS)


if __name__ == "__main__":
    unittest.main()
