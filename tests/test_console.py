"""Tests of labelframes.console."""

import unittest

from labelframes.console import Console
from labelframes.errors import (DifferentSchemas, DoubleColumn, InvalidLine, InvalidName, InvalidNumber, NotAFrame, NotSimple, NoText,
                                UnknownColumn, UnknownSource, WrongKind)
from labelframes.frames import Frame, House
from labelframes.notation import plan_text
from labelframes.origins import origins
from labelframes.plans import schema_of
from labelframes.rewriting import best
from labelframes.running import run
from tests.cases import ANY_VALUES, ErrorCase
from tests.oracle import Maker
from tests.queries import SCHEMAS as QUERY_SCHEMAS
from tests.queries import Writer, correspond

S = Frame((("a", "int"), ("b", "text"), ("c", "bool")), ((2, "x", True), (None, 'q"; ', None), (1, "x", False)))
T = Frame((("b", "text"), ("n", "int")), (("x", 7), ("x", 8), (None, 9)))
CONSOLE = Console(s=S, t=T)


class ExampleTest(unittest.TestCase):
    def test_example(self):
        console = Console(s=Frame((("a", "int"),), ((3,), (1,))))
        lines = ["run where(scan(s), lt(a, 2))", "schema rename(scan(s), a, b)", "origin 0 sort(scan(s), [a up])",
                 "alike scan(s); pick(scan(s), [a])"]
        self.assertEqual(list(map(console.say, lines)), ['a:int\n1\n', 'b:int', 's.1', 'yes'])


class AnswersTest(ErrorCase):
    def says(self, line, answer):
        self.assertEqual(CONSOLE.say(line), answer)
        self.assertEqual(CONSOLE.say(line=line), answer)

    def test_run(self):
        self.says("run scan(s)", 'a:int,b:text,c:bool\n2,"x",yes\n,"q\\"; ",\n1,"x",no\n')
        self.says("run pick(sort(scan(s), [a up]), [c, a])", "c:bool,a:int\nno,1\nyes,2\n,\n")
        self.says("run slice(scan(t), 0, 0)", "b:text,n:int\n")
        self.says('run where(scan(s), eq(b, "q\\"; "))', 'a:int,b:text,c:bool\n,"q\\"; ",\n')

    def test_best(self):
        self.says("best scan(s)", "scan(s)")
        self.says("best where(where(scan(s), c), yes)", "where(scan(s), c)")
        self.says("best where(pick(scan(s), [a, b]), lt(a, add(1, 2)))", "pick(where(scan(s), lt(a, 3)), [a, b])")

    def test_schema(self):
        self.says("schema scan(s)", "a:int,b:text,c:bool")
        self.says("schema group(scan(t), [b], [n sum n, m there n])", "b:text,n:int,m:int")
        self.says("schema pick(scan(t), [n])", "n:int")

    def test_origin(self):
        self.says("origin 0 scan(s)", "s.0")
        self.says("origin 1 sort(scan(s), [a up])", "s.0")
        self.says("origin 0 group(join(scan(s), scan(t), [b b], inner), [b], [])", "s.0 s.2 t.0 t.1")
        self.says("origin 1 join(scan(s), scan(t), [b b], left)", "s.0 t.1")
        self.says("origin 2 join(scan(s), scan(t), [b b], left)", "s.1")
        many = Console(s=Frame((("a", "int"),), tuple((1,) for _ in range(12))))
        self.assertEqual(many.say("origin 10 scan(s)"), "s.10")
        self.assertEqual(many.say("origin 0 group(scan(s), [a], [])"), " ".join(f"s.{index}" for index in range(12)))

    def test_alike(self):
        self.says("alike pick(scan(t), [n]); pick(scan(t), [n])", "yes")
        self.says("alike scan(t); where(scan(t), eq(n, n))", "no")
        self.says('alike where(scan(t), eq(b, "; ")); where(scan(t), eq("; ", b))', "yes")
        self.says('alike where(scan(t), eq(b, "; ")); where(scan(t), eq(b, ";"))', "no")
        self.says('alike where(scan(t), eq(b, "\\"; \\"")); where(scan(t), eq(b, "\\"; \\""))', "yes")
        self.says('alike where(scan(t), eq(b, "\\\\")); where(scan(t), eq(b, "\\\\; "))', "no")
        self.says('alike where(scan(t), eq(b, "\\\\\\"; ")); where(scan(t), eq("\\\\\\"; ", b))', "yes")

    def test_names(self):
        self.says("names", "s t")
        self.assertEqual(Console().say("names"), "none")
        self.assertEqual(Console(b=T, none=T, a=S).say("names"), "a b none")
        self.assertEqual(Console(x=S).say("names"), "x")

    def test_random_plans(self):
        for seed in range(150):
            plan, tables = Maker(seed).case()
            house = House(**{name: Frame(*table) for name, table in tables.items()})
            console = Console(**{name: house[name] for name in house.names})
            text = plan_text(plan)
            frame = run(plan, house)
            self.assertEqual(console.say("run " + text), str(frame))
            self.assertEqual(Frame.read(console.say("run " + text)), frame)
            self.assertEqual(console.say("schema " + text), str(frame).split("\n", maxsplit=1)[0])
            self.assertEqual(console.say("schema " + text) + "\n", str(Frame(schema_of(plan, house.schemas))))
            self.assertEqual(console.say("best " + text), plan_text(best(plan, house.schemas)[0]))
            for index, origin in enumerate(origins(plan, house)):
                expected = " ".join(f"{source}.{number}" for source, number in origin)
                self.assertEqual(console.say(f"origin {index} {text}"), expected)
            self.refuses(InvalidNumber, {"number": len(frame)}, console.say, f"origin {len(frame)} {text}")

    def test_random_queries(self):
        console = Console(**{name: Frame(schema) for name, schema in QUERY_SCHEMAS})
        for seed in range(40):
            writer = Writer(seed)
            query = writer.query(("int",), 3)
            further = writer.bent(query)
            plans = [writer.plan(query), writer.plan(further)]
            if None not in plans:
                answer = console.say(f"alike {plan_text(plans[0])}; {plan_text(plans[1])}")
                self.assertEqual(answer, "yes" if correspond(query, further) else "no")


class LinesTest(ErrorCase):
    def refused(self, *lines):
        """Asks that lines are none, for any frames."""
        for line in lines:
            for console in (CONSOLE, Console()):
                self.refuses(InvalidLine, {"line": line}, console.say, line)

    def test_values_that_are_no_strings(self):
        for value in ANY_VALUES + (b"names", ("names",), ["names"]):
            self.keeps(InvalidLine, "line", value, CONSOLE.say)

    def test_words(self):
        self.refused("", " ", "name", "Names", "NAMES", "names names", "names scan(s)", "scan(s)", "Run scan(s)", "runs scan(s)",
                     "ru scan(s)", "rum scan(s)", "help", "quit", "origins 0 scan(s)", "like scan(s); scan(s)", "none")
        self.refused("run", "best", "schema", "origin", "alike", "origin 0", "alike scan(s)", "origin scan(s)")

    def test_spaces_and_other_signs(self):
        self.refused("names ", " names", "names\n", "names\t", "run ", "run  scan(s)", " run scan(s)", "run scan(s) ", "runscan(s)",
                     "run scan(s)\n", "run\tscan(s)", "run\nscan(s)", "run scan( s)", "run scan(s)scan(s)", "run scan(s); scan(s)",
                     "schema  scan(s)", "schemascan(s)", "best  scan(s)", "best scan(s) ", "origin  0 scan(s)", "origin 0  scan(s)",
                     "origin 0scan(s)", "origin0 scan(s)", "origin 0 scan(s) ", "alike  scan(s); scan(s)", "alike scan(s);scan(s)",
                     "alike scan(s);  scan(s)", "alike scan(s) ; scan(s)", "alike scan(s); scan(s) ", "alike scan(s); scan(s);",
                     "alike scan(s), scan(s)", "alike scan(s) scan(s)", "alike scan(s); scan(s); scan(s)", "alike ; scan(s)",
                     "alike scan(s); ", "alike ; ", "alike; scan(s); scan(s)", "alikescan(s); scan(s)")

    def test_numbers(self):
        for word in ("00", "01", "-0", "-1", "+0", "+1", "0.0", "1e0", "1_0", "0x0", "", "a", "one", "\u0661", "\u00b2", "0,", "\"0\""):
            self.refused(f"origin {word} scan(s)")
        self.refused("origin 0 0 scan(s)")

    def test_texts_that_are_no_plans(self):
        for text in ("scan(S)", "scan()", "scan", "scan(s", "Scan(s)", "scan(s))", "a", "lt(a, 2)", "where(scan(s), a b)",
                     "pick(scan(s), [])", "pick(scan(s), [a, a])", "pick(scan(s),[a])", "slice(scan(s), 0, -1)", "slice(scan(s), 00, 1)",
                     'where(scan(s), eq(b, "))', "('scan', 's')", "where(scan(s), lt(a, 02))", "scan(s) scan(s)"):
            self.refused(f"run {text}", f"best {text}", f"schema {text}", f"origin 0 {text}", f"alike {text}; scan(s)",
                         f"alike scan(s); {text}")

    def test_marks_that_are_not_closed(self):
        self.refused('alike where(scan(s), eq(b, "; ")', 'alike "scan(s); scan(s)', 'alike "scan(s)"; scan(s)"',
                     'alike where(scan(s), eq(b, "\\")); scan(s)', 'alike scan(s)"; "scan(s)')


class ErrorsTest(ErrorCase):
    def test_frames_are_refused_as_those_of_a_house(self):
        for value in ANY_VALUES + (House(),):
            self.keeps(NotAFrame, "value", value, lambda frame: Console(s=S, t=frame))
        self.refuses(InvalidName, {"name": "A"}, Console, A=None, s=None)
        self.refuses(InvalidName, {"name": "abcdefghi"}, Console, abcdefghi=S)
        self.refuses(NotAFrame, {"value": None}, Console, a=None, zz_=None)
        self.assertRaises(TypeError, Console, S)

    def test_errors_of_plans(self):
        for word in ("run", "best", "schema", "origin 9"):
            for text, kind, attributes in (("scan(zz)", UnknownSource, {"name": "zz"}), ("pick(scan(s), [n])", UnknownColumn, {"name": "n"}),
                                           ("where(scan(s), a)", WrongKind, {"word": "where"}),
                                           ("stack(scan(s), scan(t))", DifferentSchemas, {}),
                                           ("rename(scan(s), a, b)", DoubleColumn, {"name": "b"})):
                self.refuses(kind, attributes, CONSOLE.say, f"{word} {text}")

    def test_a_row_that_is_not_there(self):
        for index in (3, 4, 10 ** 30):
            self.refuses(InvalidNumber, {"number": index}, CONSOLE.say, f"origin {index} scan(s)")
        self.refuses(InvalidNumber, {"number": 0}, CONSOLE.say, "origin 0 slice(scan(s), 3, all)")
        self.refuses(UnknownSource, {"name": "zz"}, CONSOLE.say, "origin 99 scan(zz)")

    def test_best_plans_without_a_text(self):
        plan = ("where", ("rename", ("rename", ("scan", "s"), "c", "no"), "no", "x"), ("col", "x"))
        text = plan_text(plan)
        self.assertEqual(CONSOLE.say("run " + text).split("\n")[0], "a:int,b:text,x:bool")
        self.assertEqual(best(plan, House(s=S).schemas)[0][1][1], ("where", ("scan", "s"), ("col", "c")))
        console = Console(s=Frame((("no", "bool"),), ((True,),)))
        self.assertEqual(console.say("run where(rename(scan(s), no, x), x)"), "x:bool\nyes\n")
        self.refuses(NoText, {}, console.say, "best where(rename(scan(s), no, x), x)")

    def test_errors_of_alike(self):
        self.refuses(UnknownSource, {"name": "y"}, CONSOLE.say, "alike scan(y); scan(z)")
        self.refuses(UnknownSource, {"name": "z"}, CONSOLE.say, "alike sort(scan(t), [n up]); scan(z)")
        self.refuses(NotSimple, {}, CONSOLE.say, "alike sort(scan(t), [n up]); scan(s)")
        self.refuses(NotSimple, {}, CONSOLE.say, "alike scan(s); scan(s)")
        self.refuses(DifferentSchemas, {}, CONSOLE.say, "alike scan(t); pick(scan(t), [n])")

    def test_the_console_stays_as_it_is(self):
        console = Console(s=S)
        for line in ("run scan(zz)", "nothing", "run scan(s)", "names"):
            try:
                console.say(line)
            except (InvalidLine, UnknownSource):
                pass
        self.assertEqual([console.say("names"), console.say("run scan(s)")], ["s", str(S)])
        self.assertFalse(console == Console(s=S))


if __name__ == "__main__":
    unittest.main()
