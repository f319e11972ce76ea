"""Tests of points 11 and 12 and of the functions of labelframes.plans."""

import copy
import unittest

from labelframes.errors import (DifferentSchemas, DoubleColumn, InvalidPath, InvalidPlan, InvalidSchemas, UnknownColumn,
                                UnknownSource, WrongKind)
from labelframes.frames import Frame, House
from labelframes.plans import Pipe, node_at, schema_of, sources_of
from labelframes.rewriting import best, rewritten, rules_at
from labelframes.running import result, run
from tests.cases import A, ANY_VALUES, B, PLAN_TEXTS, S, T, TEN, YES, ErrorCase, Odd, bush_of, chain_of, heap_of, tower_of

SCHEMAS = (("s", (("a", "int"), ("b", "text"), ("c", "bool"), ("d", "int"))), ("t", (("k", "text"), ("e", "int"), ("a", "bool"))),
           ("u", (("a", "int"), ("b", "text"), ("c", "bool"), ("d", "int"))))
HOUSE = House(**{name: Frame(schema) for name, schema in SCHEMAS})
U = ("scan", "u")
NO_S, NO_T = ("scan", "nos"), ("scan", "not")
# A node with an error of its own.
WRONG = ("pick", S, ("zz",))


def cols(text):
    """The schema of columns that are written as name:kind."""
    return tuple([tuple(column.split(":")) for column in text.split()])


class ExamplesTest(ErrorCase):
    def test_first_example(self):
        schemas = (("s", (("a", "int"), ("b", "text"))), ("t", (("k", "text"), ("c", "bool"))))
        plan = ("group", ("join", ("scan", "s"), ("scan", "t"), (("b", "k"),), "left"), ("c",), (("n", "sum", "a"),))
        self.assertEqual([schema_of(plan, schemas), sources_of(plan), node_at(plan, (0, 1))],
                         [(('c', 'bool'), ('n', 'int')), ('s', 't'), ('scan', 't')])

    def test_second_example(self):
        self.refuses(DoubleColumn, {"name": "b"}, schema_of, ("rename", ("scan", "s"), "a", "b"),
                     (("s", (("a", "int"), ("b", "text"))),))


class SchemaTest(unittest.TestCase):
    def has(self, plan, text):
        """Asks for the schema of a plan, also further inside of another one."""
        self.assertEqual(schema_of(plan, SCHEMAS), cols(text))
        self.assertEqual(schema_of(("slice", ("stack", plan, plan), 1, None), SCHEMAS), cols(text))
        self.assertEqual(run(plan, HOUSE), Frame(cols(text)))

    def test_forms_that_keep_the_schema(self):
        self.has(S, "a:int b:text c:bool d:int")
        self.has(T, "k:text e:int a:bool")
        for plan in (("where", S, ("there", A)), ("where", S, ("col", "c")), ("sort", S, (("d", True), ("b", False))),
                     ("slice", S, 3, 4), ("slice", S, 0, None), ("first", S, ("c", "a")), ("stack", S, S), ("stack", S, U),
                     ("join", S, T, (("b", "k"), ("d", "e")), "semi"), ("join", S, S, (("a", "d"),), "anti")):
            self.has(plan, "a:int b:text c:bool d:int")

    def test_pick(self):
        self.has(("pick", S, ("d", "b")), "d:int b:text")
        self.has(("pick", S, ("a", "b", "c", "d")), "a:int b:text c:bool d:int")
        self.has(("pick", T, ("a",)), "a:bool")

    def test_rename(self):
        self.has(("rename", S, "b", "z"), "a:int z:text c:bool d:int")
        self.has(("rename", ("rename", T, "a", "z"), "k", "a"), "a:text e:int z:bool")

    def test_with(self):
        self.has(("with", S, "z", ("size", B)), "a:int b:text c:bool d:int z:int")
        self.has(("with", S, "b", ("there", A)), "a:int b:bool c:bool d:int")
        self.has(("with", T, "k", ("value", "text", None)), "k:text e:int a:bool")
        self.has(("with", ("pick", S, ("a",)), "a", ("value", "bool", None)), "a:bool")

    def test_join(self):
        for how in ("inner", "left"):
            self.has(("join", ("pick", S, ("b", "c")), T, (("b", "k"),), how), "b:text c:bool e:int a:bool")
            self.has(("join", T, ("pick", S, ("d", "b", "c")), (("k", "b"),), how), "k:text e:int a:bool d:int c:bool")
            self.has(("join", S, U, (("d", "d"), ("c", "c"), ("a", "a"), ("b", "b")), how), "a:int b:text c:bool d:int")
            self.has(("join", ("pick", S, ("a", "b")), ("pick", U, ("b", "a", "c")), (("b", "b"), ("a", "a")), how),
                     "a:int b:text c:bool")
            # A column of the right input that stands in a pair may have the name of a column of the left one.
            self.has(("join", ("pick", S, ("a", "d")), ("pick", U, ("a", "c")), (("d", "a"),), how), "a:int d:int c:bool")

    def test_group(self):
        self.has(("group", S, ("c",), ()), "c:bool")
        self.has(("group", S, ("b", "a"), (("x", "count", "c"), ("y", "there", "b"), ("z", "sum", "a"))),
                 "b:text a:int x:int y:int z:int")
        for kind, name in (("int", "a"), ("text", "b"), ("bool", "c")):
            for function in ("min", "max", "first", "last"):
                self.has(("group", S, ("d",), (("x", function, name),)), f"d:int x:{kind}")
        self.has(("group", S, ("b",), (("a", "count", "a"), ("c", "sum", "d"))), "b:text a:int c:int")

    def test_running(self):
        for function, name, kind in (("count", "b", "int"), ("there", "c", "int"), ("sum", "d", "int"), ("min", "b", "text"),
                                     ("max", "c", "bool"), ("min", "a", "int")):
            self.has(("running", S, "x", function, name, ()), f"a:int b:text c:bool d:int x:{kind}")
            self.has(("running", S, "x", function, name, ("b", "a", "c", "d")), f"a:int b:text c:bool d:int x:{kind}")

    def test_melt(self):
        self.has(("melt", S, ("c", "b"), ("d", "a"), "l", "v"), "c:bool b:text l:text v:int")
        self.has(("melt", S, (), ("b",), "b", "a"), "b:text a:text")
        self.has(("melt", S, ("b",), ("c",), "c", "d"), "b:text c:text d:bool")
        self.has(("melt", S, ("b",), ("a", "d"), "d", "a"), "b:text d:text a:int")

    def test_arguments_by_name(self):
        self.assertEqual(schema_of(schemas=SCHEMAS, plan=S), SCHEMAS[0][1])
        self.assertEqual(schema_of(S, schemas=SCHEMAS[:1]), SCHEMAS[0][1])

    def test_equal_calls_and_arguments(self):
        for plan, _ in PLAN_TEXTS:
            before = copy.deepcopy(plan)
            self.assertEqual(sources_of(plan), sources_of(plan))
            self.assertEqual(repr(plan), repr(before))


# For each error of a node of its own: the node, the class, and its attribute.
NODE_ERRORS = (
    (("scan", "nos"), UnknownSource, "nos"),
    (("where", S, ("there", ("col", "z"))), UnknownColumn, "z"),
    (("where", S, ("there", ("size", A))), WrongKind, "size"),
    (("where", S, ("add", A, A)), WrongKind, "where"),
    (("where", S, B), WrongKind, "where"),
    (("where", S, ("value", "int", None)), WrongKind, "where"),
    (("where", S, ("col", "z")), UnknownColumn, "z"),
    (("where", S, ("add", B, A)), WrongKind, "add"),
    (("pick", S, ("a", "y", "b", "z")), UnknownColumn, "y"),
    (("pick", S, ("k",)), UnknownColumn, "k"),
    (("rename", S, "z", "y"), UnknownColumn, "z"),
    (("rename", S, "z", "a"), UnknownColumn, "z"),
    (("rename", S, "z", "z"), UnknownColumn, "z"),
    (("rename", S, "a", "b"), DoubleColumn, "b"),
    (("rename", S, "a", "a"), DoubleColumn, "a"),
    (("rename", S, "d", "a"), DoubleColumn, "a"),
    (("with", S, "z", ("col", "z")), UnknownColumn, "z"),
    (("with", S, "a", ("eq", A, B)), WrongKind, "eq"),
    (("with", S, "a", ("if", ("size", ("col", "y")), ("col", "z"), A)), UnknownColumn, "y"),
    (("sort", S, (("a", True), ("z", False), ("y", True))), UnknownColumn, "z"),
    (("first", S, ("b", "z", "y")), UnknownColumn, "z"),
    (("stack", S, T), DifferentSchemas, None),
    (("stack", S, ("pick", S, ("b", "a", "c", "d"))), DifferentSchemas, None),
    (("stack", S, ("pick", S, ("a", "b", "c"))), DifferentSchemas, None),
    (("stack", S, ("rename", S, "d", "z")), DifferentSchemas, None),
    (("stack", S, ("with", S, "d", YES)), DifferentSchemas, None),
    (("join", S, T, (("z", "y"),), "inner"), UnknownColumn, "z"),
    (("join", S, T, (("a", "b"),), "left"), UnknownColumn, "b"),
    (("join", S, T, (("b", "k"), ("a", "z"), ("y", "e")), "semi"), UnknownColumn, "z"),
    (("join", S, T, (("b", "k"), ("y", "z")), "anti"), UnknownColumn, "y"),
    (("join", S, T, (("a", "k"), ("y", "e")), "inner"), UnknownColumn, "y"),
    (("join", S, T, (("a", "k"),), "inner"), WrongKind, "join"),
    (("join", S, T, (("b", "k"), ("d", "a")), "semi"), WrongKind, "join"),
    (("join", S, T, (("c", "e"),), "anti"), WrongKind, "join"),
    (("join", S, T, (("b", "k"),), "inner"), DoubleColumn, "a"),
    (("join", S, T, (("b", "k"),), "left"), DoubleColumn, "a"),
    (("join", S, ("pick", U, ("d", "c", "b", "a")), (("a", "a"),), "left"), DoubleColumn, "d"),
    (("join", S, T, (("b", "k"), ("a", "a")), "inner"), WrongKind, "join"),
    (("group", S, ("a", "z"), (("n", "sum", "y"),)), UnknownColumn, "z"),
    (("group", S, ("a",), (("n", "count", "b"), ("m", "sum", "y"), ("a", "sum", "z"))), UnknownColumn, "y"),
    (("group", S, ("a",), (("n", "sum", "b"), ("m", "sum", "y"))), UnknownColumn, "y"),
    (("group", S, ("a",), (("a", "count", "b"), ("m", "sum", "c"))), WrongKind, "sum"),
    (("group", S, ("a",), (("n", "sum", "b"),)), WrongKind, "sum"),
    (("group", S, ("b", "a"), (("n", "count", "b"), ("a", "sum", "a"))), DoubleColumn, "a"),
    (("group", S, ("b",), (("n", "count", "b"), ("m", "sum", "a"), ("n", "min", "a"))), DoubleColumn, "n"),
    (("group", S, ("b",), (("n", "count", "b"), ("n", "count", "b"), ("b", "count", "b"))), DoubleColumn, "n"),
    (("running", S, "n", "sum", "z", ("y",)), UnknownColumn, "z"),
    (("running", S, "a", "sum", "b", ("a", "y", "z")), UnknownColumn, "y"),
    (("running", S, "a", "sum", "b", ("a",)), WrongKind, "sum"),
    (("running", S, "n", "sum", "c", ()), WrongKind, "sum"),
    (("running", S, "a", "sum", "d", ()), DoubleColumn, "a"),
    (("running", S, "b", "count", "b", ("b",)), DoubleColumn, "b"),
    (("melt", S, ("a", "z"), ("y",), "l", "v"), UnknownColumn, "z"),
    (("melt", S, ("a",), ("b", "y", "z"), "a", "a"), UnknownColumn, "y"),
    (("melt", S, ("b",), ("a", "c"), "b", "b"), WrongKind, "melt"),
    (("melt", S, (), ("b", "a"), "l", "v"), WrongKind, "melt"),
    (("melt", S, ("a", "b"), ("d",), "b", "a"), DoubleColumn, "b"),
    (("melt", S, ("a", "b"), ("d",), "l", "a"), DoubleColumn, "a"),
    (("melt", S, ("a", "b"), ("d",), "l", "l"), DoubleColumn, "l"),
    (("melt", S, ("a", "b"), ("d",), "b", "b"), DoubleColumn, "b"),
)


class SchemaErrorsTest(ErrorCase):
    CALLS = (lambda plan: schema_of(plan, SCHEMAS), lambda plan: run(plan, HOUSE), lambda plan: rules_at(plan, (), SCHEMAS),
             lambda plan: rewritten(plan, (("fold", ()),), SCHEMAS), lambda plan: best(plan, SCHEMAS),
             lambda plan: Pipe(plan)(HOUSE),
             lambda plan: result(plan, **{name: HOUSE[name] for name in HOUSE.names}))

    def fails(self, plan, error, attribute):
        """Asks for an error of a plan in each function that works out its schema."""
        name = {WrongKind: "word", DifferentSchemas: None}.get(error, "name")
        for call in self.CALLS:
            self.refuses(error, {} if name is None else {name: attribute}, call, plan)

    def test_each_node(self):
        for node, error, attribute in NODE_ERRORS:
            self.fails(node, error, attribute)

    def test_inputs_before_the_node(self):
        for node, error, attribute in NODE_ERRORS:
            for plan in (("pick", node, ("zz",)), ("where", node, TEN), ("with", node, "n", ("size", TEN)), ("slice", node, 0, 0),
                         ("rename", node, "zz", "zz"), ("sort", node, (("zz", True),)), ("first", node, ("zz",)),
                         ("group", node, ("zz",), ()), ("running", node, "zz", "sum", "zz", ()),
                         ("melt", node, (), ("zz",), "l", "l"),
                         ("stack", node, S), ("stack", T, node), ("stack", U, ("where", node, YES)),
                         ("join", node, S, (("zz", "zz"),), "inner"), ("join", S, node, (("zz", "zz"),), "anti")):
                self.fails(plan, error, attribute)

    def test_the_left_input_before_the_right_one(self):
        self.fails(("stack", NO_S, NO_T), UnknownSource, "nos")
        self.fails(("stack", S, NO_T), UnknownSource, "not")
        self.fails(("join", WRONG, NO_T, (("zz", "zz"),), "semi"), UnknownColumn, "zz")
        self.fails(("join", NO_T, WRONG, (("zz", "zz"),), "left"), UnknownSource, "not")
        self.fails(("stack", ("where", S, TEN), ("pick", WRONG, ("q",))), WrongKind, "where")
        self.fails(("stack", ("slice", S, 0, 1), ("pick", WRONG, ("q",))), UnknownColumn, "zz")

    def test_no_schemas(self):
        self.refuses(UnknownSource, {"name": "s"}, schema_of, S, ())
        self.refuses(UnknownSource, {"name": "s"}, run, ("stack", S, T), House())
        self.refuses(UnknownSource, {"name": "s"}, result, S)

    def test_no_error_of_a_slice(self):
        for start, count in ((0, 0), (10 ** 29, None), (10 ** 29, 10 ** 29)):
            self.assertEqual(schema_of(("slice", S, start, count), SCHEMAS), SCHEMAS[0][1])

    def test_schemas(self):
        for value in ANY_VALUES:
            if not isinstance(value, tuple):
                for call in (schema_of, best):
                    self.refuses(InvalidSchemas, {"index": None}, call, NO_S, value)
                self.refuses(InvalidSchemas, {"index": None}, rules_at, NO_S, (), value)
                self.refuses(InvalidSchemas, {"index": None}, rewritten, NO_S, (), value)
        for schemas, index in (((("s", ()),), 0), ((["s", (("a", "int"),)],), 0), ((SCHEMAS[1], SCHEMAS[0]), 1),
                               ((SCHEMAS[0], SCHEMAS[0]), 1), ((SCHEMAS[0], None), 1),
                               (SCHEMAS + (("v", (("a", "int"), ("a", "int"))),), 3),
                               ((("S", SCHEMAS[0][1]),), 0), ((("s", SCHEMAS[0][1], 1),), 0), ((("s", [("a", "int")]),), 0)):
            for call in (schema_of, best):
                self.refuses(InvalidSchemas, {"index": index}, call, NO_S, schemas)
            self.refuses(InvalidSchemas, {"index": index}, rules_at, NO_S, (), schemas)
            self.refuses(InvalidSchemas, {"index": index}, rewritten, NO_S, (), schemas)


class InvalidPlanTest(ErrorCase):
    CALLS = (lambda plan: schema_of(plan, None), sources_of, lambda plan: node_at(plan, None), Pipe, lambda plan: run(plan, None),
             lambda the_plan: result(the_plan, s=None), lambda plan: rules_at(plan, None, None),
             lambda plan: rewritten(plan, None, None), lambda plan: best(plan, None))

    def refused(self, path, plan):
        for call in self.CALLS:
            self.refuses(InvalidPlan, {"path": path}, call, plan)

    def test_none_of_the_forms(self):
        for wrong in ANY_VALUES + ((), A, ["scan", "s"], ("scan", "S"), ("slice", S, True, 1), ("slice", S, 0, False),
                                   ("slice", S, -1, 1),
                                   ("sort", S, (("a", 1),)), ("sort", S, [("a", True)]), ("pick", S, ["a"]), ("pick", S, ()),
                                   ("join", S, T, (["a", "a"],), "inner"), ("where", S, ("not", 1)), ("scan", Odd())):
            self.refused((), wrong)
            self.refused((1,), ("stack", S, wrong))
            self.refused((0, 1, 0), ("slice", ("stack", T, ("first", wrong, ("a",))), 0, 1))

    def test_each_node_before_its_inputs(self):
        self.refused((), ("stack", None))
        self.refused((), ("pick", None, ()))
        self.refused((0,), ("stack", ("where", None, None), None))
        self.refused((0, 0), ("stack", ("where", None, YES), None))
        self.refused((1,), ("stack", ("where", S, YES), ("slice", None, 0, -1)))

    def test_limits(self):
        for call in (sources_of, Pipe):
            call(heap_of(30))
            call(tower_of(12))
        self.refused((), heap_of(31))
        self.refused((), tower_of(13))
        self.refused((1,), ("stack", heap_of(31), None))
        self.refused((0,) * 13, self.tower_over(13))

    def tower_over(self, levels):
        """So many levels over something that is no plan."""
        plan = None
        for _ in range(levels):
            plan = ("slice", plan, 0, 1)
        return plan

    def test_limits_of_expressions(self):
        for expression in (chain_of(9), bush_of(41), ("and", A, chain_of(8)), ("not", bush_of(40))):
            self.refused((), ("where", S, expression))
            self.refused((1, 0), ("stack", S, ("slice", ("with", T, "a", expression), 0, 1)))
            self.refused((), ("where", None, expression))


class SourcesTest(unittest.TestCase):
    def test_sources(self):
        self.assertEqual(sources_of(S), ("s",))
        self.assertEqual(sources_of(plan=("stack", ("stack", T, S), ("where", ("stack", U, T), YES))), ("s", "t", "u"))
        self.assertEqual(sources_of(("join", ("scan", "b"), ("stack", ("scan", "ab"), ("scan", "a")), (("k", "k"),), "semi")),
                         ("a", "ab", "b"))
        self.assertEqual(sources_of(("pick", ("stack", S, S), ("zz",))), ("s",))
        self.assertEqual(sources_of(heap_of(30)), ("s",))


class NodeAtTest(ErrorCase):
    PLAN = ("where", ("join", ("slice", S, 0, 1), ("stack", T, ("first", U, ("a",))), (("a", "a"),), "inner"), YES)

    def test_nodes(self):
        join = self.PLAN[1]
        for path, node in (((), self.PLAN), ((0,), join), ((0, 0), ("slice", S, 0, 1)), ((0, 0, 0), S), ((0, 1), join[2]),
                           ((0, 1, 0), T), ((0, 1, 1), ("first", U, ("a",))), ((0, 1, 1, 0), U)):
            self.assertEqual(node_at(self.PLAN, path), node)
            self.assertEqual(node_at(plan=self.PLAN, path=path), node)
        self.assertEqual(node_at(tower_of(12), (0,) * 11), S)

    def test_invalid_path(self):
        for value in ANY_VALUES + ((1,), (0, 2), (0, -1), (0, 0, 1), (0, 0, 0, 0), (0, 1, 0, 0), (0, 1, 1, 0, 0), (False,),
                                   (0, True),
                                   (0, True, 0), [0], [], "0", "", ("0",), (None,), ((),), ((0,),), (0, [1]), (Odd(),),
                                   (0, Odd()), (0,) * 50,
                                   (0,) * 90000, (2,), (-1,), (10 ** 29,)):
            if value != () or isinstance(value, Odd):
                self.keeps(InvalidPath, "path", value, lambda path: node_at(self.PLAN, path))
                self.keeps(InvalidPath, "path", value, lambda path: rules_at(self.PLAN, path, None))
        for path in ((0,), (1,)):
            self.refuses(InvalidPath, {"path": path}, node_at, S, path)


if __name__ == "__main__":
    unittest.main()
