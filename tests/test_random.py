"""Random plans, whose schemas, errors and results are compared with those of tests/oracle.py."""

import unittest

from labelframes.errors import FindError
from labelframes.expressions import Expr, kind_of, value_of
from labelframes.forms import plan_fault
from labelframes.frames import Frame, House
from labelframes.notation import plan_text, read_plan
from labelframes.plans import Pipe, schema_of
from labelframes.running import run
from tests import oracle
from tests.oracle import Maker


def outcome(call, *args):
    """What a call returns, or the class and the attributes of its error."""
    try:
        return call(*args)
    except FindError as error:
        return type(error), vars(error)


class RandomTest(unittest.TestCase):
    def test_schemas_and_their_errors(self):
        seen = {}
        for seed in range(400):
            maker = Maker(seed)
            plan, tables = maker.case()
            schemas = {name: table[0] for name, table in tables.items()}
            for other in [plan] + [maker.spoiled(plan) for _ in range(6)]:
                if plan_fault(other) is None:
                    found = outcome(schema_of, other, tuple(sorted(schemas.items())))
                    self.assertEqual(found, outcome(oracle.schema_of, other, schemas), other)
                    seen[found[0]] = True
        self.assertGreaterEqual(len([kind for kind in seen if isinstance(kind, type)]), 5)

    def test_results(self):
        for seed in range(400):
            plan, tables = Maker(seed).case()
            house = House(**{name: Frame(*table) for name, table in tables.items()})
            schema = schema_of(plan, house.schemas)
            dicts = {name: (table[0], [dict(zip([column[0] for column in table[0]], row)) for row in table[1]])
                     for name, table in tables.items()}
            expected = tuple(tuple(row[name] for name, _ in schema) for row in oracle.rows_of(plan, dicts))
            found = run(plan, house)
            self.assertEqual(found.schema, schema)
            self.assertEqual(repr(found.rows), repr(expected), plan)
            self.assertEqual(Pipe(plan)(house), found)
            self.assertEqual(read_plan(plan_text(plan)), plan)

    def test_values_and_their_errors(self):
        for seed in range(400):
            maker = Maker(seed)
            schema = maker.schema()
            expression = maker.expression(schema, maker.random.choice(maker.KINDS), 4)
            for other in [expression] + [maker.spoiled(expression) for _ in range(4)]:
                if plan_fault(("where", ("scan", "s"), other)) is None:
                    kind = outcome(kind_of, other, schema)
                    self.assertEqual(kind, outcome(oracle.kind, other, schema), other)
                    rows = maker.rows(schema)
                    for row in rows if isinstance(kind, str) else ():
                        dicts = dict(zip([column[0] for column in schema], row))
                        self.assertEqual(repr(value_of(other, schema, row)), repr(oracle.value(other, dicts)), other)
                    if isinstance(kind, str):
                        self.assertEqual(Expr(other)(Frame(schema, rows)), tuple(value_of(other, schema, row) for row in rows))


if __name__ == "__main__":
    unittest.main()
