"""Tests of labelframes.certificates."""

import unittest

from labelframes.certificates import certify_alike, certify_best
from labelframes.checker import accepts
from labelframes.errors import DifferentSchemas, InvalidPlan, InvalidSchemas, NotSimple, UnknownColumn, UnknownSource, WrongKind
from labelframes.frames import Frame, House
from labelframes.rewriting import best
from labelframes.running import run
from labelframes.simple import correspondence, difference
from tests.cases import A, ANY_VALUES, S, YES, ErrorCase
from tests.oracle import Maker
from tests.queries import SCHEMAS as QUERY_SCHEMAS
from tests.queries import Writer, bag
from tests.test_simple import SA, SCHEMAS, copies, eq, number, where


class BestTest(ErrorCase):
    def test_example(self):
        schemas = (("r", (("a", "int"),)),)
        plan = ("where", ("where", ("scan", "r"), ("eq", ("col", "a"), ("value", "int", 1))), ("eq", ("value", "int", 1), ("col", "a")))
        claim, certificate = certify_alike(plan, ("where", ("scan", "r"), ("eq", ("col", "a"), ("value", "int", 1))), schemas)
        self.assertEqual([claim[0], certificate, accepts(claim, certificate), certify_best(plan, schemas)[1]],
                         ['alike', (0,), True, (('where-where', ()),)])

    def test_claims(self):
        for seed in range(100):
            plan, tables = Maker(seed).case()
            schemas = tuple(sorted((name, table[0]) for name, table in tables.items()))
            other, steps = best(plan, schemas)
            self.assertEqual(certify_best(plan, schemas), (("rewritten", plan, other, schemas), steps))
            self.assertEqual(certify_best(schemas=schemas, plan=plan), certify_best(plan, schemas))
            self.assertIs(accepts(*certify_best(plan, schemas)), True)

    def test_errors(self):
        for value in ANY_VALUES:
            self.refuses(InvalidPlan, {"path": ()}, certify_best, value, None)
            if value != ():
                self.refuses(InvalidSchemas, {"index": 0 if isinstance(value, tuple) else None}, certify_best, ("scan", "zz"), value)
        self.refuses(UnknownSource, {"name": "zz"}, certify_best, ("stack", ("scan", "zz"), SA), SCHEMAS)
        self.refuses(UnknownColumn, {"name": "zz"}, certify_best, ("pick", S, ("zz",)), SCHEMAS)
        self.refuses(WrongKind, {"word": "where"}, certify_best, where(S, A), SCHEMAS)


class AlikeTest(ErrorCase):
    def test_claims(self):
        seen = {"alike": 0, "unlike": 0}
        for seed in range(60):
            writer = Writer(seed)
            query = writer.query(("int",), 4)
            plans = [writer.plan(query), writer.plan(writer.bent(query))]
            if None not in plans:
                claim, certificate = certify_alike(*plans, QUERY_SCHEMAS)
                self.assertEqual(claim[1:], (*plans, QUERY_SCHEMAS))
                seen[claim[0]] += 1
                if claim[0] == "alike":
                    self.assertEqual(certificate, correspondence(*plans, QUERY_SCHEMAS))
                else:
                    house = difference(*plans, QUERY_SCHEMAS)
                    self.assertEqual(certificate, tuple(house[name].rows for name in house.names))
                    data = House(**{name: Frame(schema, rows) for (name, schema), rows in zip(QUERY_SCHEMAS, certificate)})
                    self.assertNotEqual(bag(run(plans[0], data).rows), bag(run(plans[1], data).rows))
                self.assertIs(accepts(claim, certificate), True)
                self.assertEqual(certify_alike(schemas=QUERY_SCHEMAS, other=plans[1], plan=plans[0]), (claim, certificate))
        self.assertGreater(min(seen.values()), 5)

    def test_void_plans(self):
        void = where(SA, eq(A, number(1)), eq(A, number(2)))
        other = where(copies(2), eq(A, number(1)), eq(A, number(2)))
        self.assertEqual(certify_alike(void, other, SCHEMAS), (("alike", void, other, SCHEMAS), ()))
        self.assertEqual(certify_alike(void, SA, SCHEMAS)[0], ("unlike", void, SA, SCHEMAS))

    def test_rows_of_sources_that_are_not_scanned(self):
        claim, certificate = certify_alike(SA, copies(2), SCHEMAS)
        self.assertEqual((claim[0], len(certificate), certificate[0], certificate[2]), ("unlike", 3, (), ()))

    def test_errors(self):
        ordered = ("sort", SA, (("a", True),))
        for value in ANY_VALUES:
            self.refuses(InvalidPlan, {"path": ()}, certify_alike, value, None, None)
            self.refuses(InvalidPlan, {"path": ()}, certify_alike, ("scan", "zz"), value, None)
            if value != ():
                self.refuses(InvalidSchemas, {"index": 0 if isinstance(value, tuple) else None}, certify_alike, ("scan", "zz"), SA, value)
        self.refuses(UnknownSource, {"name": "zz"}, certify_alike, ("scan", "zz"), ("scan", "yy"), SCHEMAS)
        self.refuses(UnknownSource, {"name": "yy"}, certify_alike, ordered, ("scan", "yy"), SCHEMAS)
        self.refuses(NotSimple, {}, certify_alike, ordered, ("scan", "n"), SCHEMAS)
        self.refuses(NotSimple, {}, certify_alike, ("scan", "n"), where(SA, YES), SCHEMAS)
        self.refuses(DifferentSchemas, {}, certify_alike, SA, ("scan", "n"), SCHEMAS)


if __name__ == "__main__":
    unittest.main()
