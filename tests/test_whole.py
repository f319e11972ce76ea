"""Tests of what DOC.md says of several modules together."""

import copy
import random
import unittest

from labelframes.certificates import certify_alike, certify_best
from labelframes.checker import accepts
from labelframes.console import Console
from labelframes.demand import chunks, rows_of
from labelframes.errors import FindError
from labelframes.expressions import Expr
from labelframes.forms import plan_fault
from labelframes.frames import Frame, House
from labelframes.kept import Kept
from labelframes.notation import expression_text, plan_text, read_expression, read_plan
from labelframes.origins import narrowed, origins
from labelframes.paths import paths_of
from labelframes.plans import Pipe, schema_of
from labelframes.rewriting import best, rewritten, rules_at
from labelframes.running import result, run
from labelframes.sheets import NotedSheet, Sheet
from labelframes.simple import alike, correspondence, difference, is_simple
from tests.cases import S
from tests.oracle import Maker
from tests.queries import SCHEMAS as QUERY_SCHEMAS
from tests.queries import Writer


def house_of(tables):
    return House(**{name: Frame(*table) for name, table in tables.items()})


def feeds_of(house):
    """For each source of a house a feed that reads its rows."""
    return {name: (house[name].schema, dict(enumerate(house[name].rows)).get) for name in house.names}


def flat(parts):
    """The rows of tuples of rows."""
    return tuple(row for part in parts for row in part)


def frames_of(house):
    return {name: house[name] for name in house.names}


# All ways to the rows of a plan.
WAYS = (
    lambda plan, house: run(plan, house).rows,
    lambda plan, house: result(plan, **frames_of(house)).rows,
    lambda plan, house: Pipe(plan)(house).rows,
    lambda plan, house: tuple(rows_of(plan, **feeds_of(house))),
    lambda plan, house: flat(chunks(plan, 1, **feeds_of(house))),
    lambda plan, house: flat(chunks(plan, 4, **feeds_of(house))),
    lambda plan, house: Kept(plan, house).frame.rows,
    lambda plan, house: run(best(plan, house.schemas)[0], house).rows,
    lambda plan, house: tuple(rows_of(best(plan, house.schemas)[0], **feeds_of(house))),
    lambda plan, house: Frame.read(Console(**frames_of(house)).say("run " + plan_text(plan))).rows,
)


def outcome(call, *args):
    """What a call returns, or its error, as a text."""
    try:
        return repr(call(*args))
    except FindError as error:
        return f"{type(error)} {vars(error)}"


class RowsTest(unittest.TestCase):
    def test_all_ways_give_the_same_rows(self):
        for seed in range(250):
            plan, tables = Maker(seed).case()
            house = house_of(tables)
            expected = outcome(WAYS[0], plan, house)
            for way in WAYS:
                self.assertEqual(outcome(way, plan, house), expected, plan)

    def test_all_ways_raise_the_same_errors(self):
        seen = 0
        further = (schema_of, best, is_simple)
        for seed in range(250):
            maker = Maker(seed)
            plan, tables = maker.case()
            house = house_of(tables)
            for other in [other for other in [maker.spoiled(plan) for _ in range(4)] if plan_fault(other) is None]:
                expected = outcome(WAYS[0], other, house)
                if expected.startswith("<class"):
                    seen += 1
                    for way in WAYS + (origins, lambda plan, house: Kept(plan, house)):
                        self.assertEqual(outcome(way, other, house), expected, other)
                    for function in further:
                        self.assertEqual(outcome(function, other, house.schemas), expected)
                    for function in (alike, correspondence, difference):
                        self.assertEqual(outcome(function, other, plan, house.schemas), expected)
                        self.assertEqual(outcome(function, plan, other, house.schemas), expected)
        self.assertGreater(seen, 100)

    def test_a_kept_and_the_other_ways_behind_changes(self):
        for seed in range(60):
            maker = Maker(seed)
            plan, tables = maker.case()
            kept = Kept(plan, house_of(tables))
            for _ in range(4):
                source = maker.random.choice(kept.house.names)
                rows = maker.rows(kept.house[source].schema)
                kept.do_all(tuple(("insert", source, 0, row) for row in rows))
                if len(kept.house[source]) > 0:
                    kept.remove_row(source, len(kept.house[source]) - 1)
                for way in WAYS:
                    self.assertEqual(repr(way(plan, kept.house)), repr(kept.frame.rows))


class RewritingTest(unittest.TestCase):
    def test_rows_and_origins_stay_behind_each_step(self):
        steps = 0
        for seed in range(150):
            plan, tables = Maker(seed).case()
            house = house_of(tables)
            rows, found = run(plan, house).rows, origins(plan, house)
            for path in paths_of(plan):
                for rule in rules_at(plan, path, house.schemas):
                    steps += 1
                    other = rewritten(plan, ((rule, path),), house.schemas)
                    self.assertEqual(origins(other, house), found, (plan, rule, path))
                    self.assertEqual(repr(tuple(rows_of(other, **feeds_of(house)))), repr(rows))
            claim, certificate = certify_best(plan, house.schemas)
            self.assertEqual((origins(claim[2], house), accepts(claim, certificate)), (found, True))
        self.assertGreater(steps, 100)

    def test_simple_plans_stay_alike(self):
        steps = 0
        for seed in range(120):
            writer = Writer(seed)
            plan = writer.plan(writer.query(("int",), 3))
            if plan is not None:
                for path in paths_of(plan):
                    for rule in rules_at(plan, path, QUERY_SCHEMAS):
                        other = rewritten(plan, ((rule, path),), QUERY_SCHEMAS)
                        self.assertIs(is_simple(other, QUERY_SCHEMAS), True)
                        self.assertIs(alike(plan, other, QUERY_SCHEMAS), True)
                        steps += 1
        self.assertGreater(steps, 50)


class SheetsTest(unittest.TestCase):
    def test_a_sheet_and_a_kept_with_the_same_writes(self):
        schema = (("a", "int"), ("b", "text"), ("c", "bool"))
        values = ((None, 0, 5), (None, "", "x"), (None, True, False))
        for seed in range(40):
            chance = random.Random(seed)
            frame = Frame(schema, tuple(tuple(map(chance.choice, values)) for _ in range(chance.randint(0, 6))))
            kept = Kept(S, House(s=frame))
            sheet = NotedSheet(frame, block=chance.choice((1, 2, 4)))
            others = [(sheet.twin(), frame)]
            for _ in range(30):
                index, place = chance.randint(0, len(sheet)), chance.randrange(3)
                if index == len(sheet):
                    row = tuple(map(chance.choice, values))
                    self.assertEqual(sheet.add_row(row), len(kept.house["s"]))
                    kept.insert_row("s", index, row)
                else:
                    value = chance.choice(values[place])
                    row = kept.frame[index]
                    sheet.put(index, "abc"[place], value)
                    kept.replace_row("s", index, row[:place] + (value,) + row[place + 1:])
                self.assertEqual(sheet.to_frame(), kept.frame)
                if chance.random() < 0.1:
                    others.append((sheet.twin(), kept.frame))
            for other, rows in others:
                self.assertEqual(other.to_frame(), rows)
            self.assertEqual((len(sheet.notes()), len(kept)), (30, 30))

    def test_the_frame_of_a_sheet_in_a_house(self):
        sheet = Sheet(Frame((("a", "int"),), ((1,),)))
        house = House(s=sheet.to_frame())
        sheet.add_row((2,))
        self.assertEqual([run(S, house).rows, run(S, house.replaced(s=sheet.to_frame())).rows], [((1,),), ((1,), (2,))])


class TextsTest(unittest.TestCase):
    def test_texts_are_read_back(self):
        for seed in range(200):
            maker = Maker(seed)
            plan, tables = maker.case()
            house = house_of(tables)
            self.assertEqual(read_plan(plan_text(plan)), plan)
            self.assertEqual(Pipe.read(str(Pipe(plan))), Pipe(plan))
            for frame in (run(plan, house), *frames_of(house).values()):
                self.assertEqual(Frame.read(str(frame)), frame)
                self.assertEqual(repr(Frame.read(str(frame)).rows), repr(frame.rows))
            expression = maker.expression(maker.schema(), maker.random.choice(maker.KINDS), 4)
            self.assertEqual(read_expression(expression_text(expression)), expression)
            self.assertEqual(Expr.read(str(Expr(expression))), Expr(expression))


class ArgumentsTest(unittest.TestCase):
    def test_arguments_stay_and_equal_calls_return_equal_results(self):
        for seed in range(40):
            plan, tables = Maker(seed).case()
            house = house_of(tables)
            schemas = house.schemas
            steps = best(plan, schemas)[1]
            found = origins(plan, house)
            origin = found[0] if found else ()
            given = copy.deepcopy((plan, tables, schemas, steps, origin))
            calls = (lambda: list(rows_of(plan, **feeds_of(house))), lambda: list(chunks(plan, 2, **feeds_of(house))),
                     lambda: origins(plan, house), lambda: narrowed(house, origin), lambda: is_simple(plan, schemas),
                     lambda: rewritten(plan, steps, schemas), lambda: certify_best(plan, schemas),
                     lambda: accepts(*certify_best(plan, schemas)), lambda: Kept(plan, house),
                     lambda: Console(**frames_of(house)).say("run " + plan_text(plan)))
            for call in calls:
                self.assertEqual(call(), call())
            self.assertEqual((plan, tables, schemas, steps, origin), given)
            self.assertEqual(house, house_of(given[1]))

    def test_simple_plans(self):
        for seed in range(20):
            writer = Writer(seed)
            query = writer.query(("int",), 4)
            plans = [writer.plan(query), writer.plan(writer.bent(query))]
            if None not in plans:
                given = copy.deepcopy(plans)
                for function in (correspondence, alike, difference, certify_alike):
                    self.assertEqual(function(*plans, QUERY_SCHEMAS), function(*plans, QUERY_SCHEMAS))
                self.assertEqual(plans, given)


if __name__ == "__main__":
    unittest.main()
