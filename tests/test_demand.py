"""Tests of point 15 and of labelframes.demand."""

import inspect
import unittest

from labelframes.demand import chunks, rows_of
from labelframes.errors import (DifferentSchemas, InvalidFeed, InvalidName, InvalidNumber, InvalidPlan, InvalidRow, UnknownColumn,
                                UnknownSource, WrongKind)
from labelframes.frames import Frame, House
from labelframes.running import run
from tests import readers
from tests.cases import A, ANY_VALUES, PLAN_TEXTS, S, T, YES, ErrorCase, Odd
from tests.oracle import Maker

ONE = (("a", "int"),)
TWO = (("a", "int"), ("b", "text"))
BELOW = ("lt", A, ("value", "int", 3))


class Source:
    """Rows that are read one by one; each call is kept in a list that several sources may share."""

    def __init__(self, name, schema, rows, happened):
        self.name = name
        self.schema = schema
        self.rows = rows
        self.happened = happened

    def __call__(self, index):
        self.happened.append((self.name, index))
        return self.rows[index] if index < len(self.rows) else None


def traced(plan, size=None, **tables):
    """All that happens when a plan is run on demand to its end: the calls, as words like `s0`, and the rows."""
    happened = []
    feeds = {name: (schema, Source(name, schema, rows, happened)) for name, (schema, rows) in tables.items()}
    for item in rows_of(plan, **feeds) if size is None else chunks(plan, size, **feeds):
        happened.append(item)
    return [f"{item[0]}{item[1]}" if len(item) == 2 and item[0] in tables else item for item in happened]


def rows(*values):
    """A table of one column, of integers."""
    return ONE, tuple((value,) for value in values)


class TracesTest(unittest.TestCase):
    def happens(self, plan, expected, **tables):
        """Asks for just these calls and rows in this sequence, and that the rows are those of run."""
        self.assertEqual(traced(plan, **tables), expected)
        house = House(**{name: Frame(*table) for name, table in tables.items()})
        self.assertEqual(tuple(item for item in expected if isinstance(item, tuple)), run(plan, house).rows)

    def test_example(self):
        asked, data = [], ((3,), (None,), (1,), (2,))
        plan = ("slice", ("where", ("scan", "s"), ("there", ("col", "a"))), 0, 2)
        found = list(rows_of(plan, s=((("a", "int"),), lambda index: asked.append(index) or (data[index] if index < 4 else None))))
        self.assertEqual([found, asked], [[(3,), (1,)], [0, 1, 2]])

    def test_scan(self):
        self.happens(S, ["s0", (5,), "s1", (None,), "s2", (5,), "s3"], s=rows(5, None, 5))
        self.happens(S, ["s0"], s=rows())

    def test_forms_that_take_row_by_row(self):
        three = rows(2, 3, 1)
        self.happens(("where", S, BELOW), ["s0", (2,), "s1", "s2", (1,), "s3"], s=three)
        self.happens(("where", S, ("value", "bool", None)), ["s0", "s1", "s2", "s3"], s=three)
        self.happens(("pick", S, ("b",)), ["s0", ("x",), "s1"], s=(TWO, ((1, "x"),)))
        self.happens(("rename", S, "a", "z"), ["s0", (2,), "s1", (3,), "s2", (1,), "s3"], s=three)
        self.happens(("with", S, "z", ("add", A, A)), ["s0", (2, 4), "s1", (3, 6), "s2", (1, 2), "s3"], s=three)
        self.happens(("first", S, ("a",)), ["s0", (2,), "s1", "s2", (None,), "s3", "s4", "s5", (0,), "s6"],
                     s=rows(2, 2, None, 2, None, 0))
        self.happens(("running", S, "n", "sum", "a", ()), ["s0", (2, 2), "s1", (3, 5), "s2", (1, 6), "s3"], s=three)
        self.happens(("running", S, "n", "max", "a", ("a",)), ["s0", (2, 2), "s1", (None, None), "s2"], s=rows(2, None))
        table = (("a", "int"), ("c", "int"), ("k", "bool")), ((1, None, True), (3, 4, None))
        self.happens(("melt", S, ("k",), ("c", "a"), "l", "v"),
                     ["s0", (True, "c", None), (True, "a", 1), "s1", (None, "c", 4), (None, "a", 3), "s2"], s=table)
        self.happens(("where", ("melt", S, (), ("a", "c"), "l", "v"), ("there", ("col", "v"))),
                     ["s0", ("a", 1), "s1", ("a", 3), ("c", 4), "s2"], s=table)

    def test_slice(self):
        four = rows(1, 2, 3, 4)
        self.happens(("slice", S, 0, 0), [], s=four)
        self.happens(("slice", S, 3, 0), [], s=four)
        self.happens(("slice", S, 0, 1), ["s0", (1,)], s=four)
        self.happens(("slice", S, 1, 2), ["s0", "s1", (2,), "s2", (3,)], s=four)
        self.happens(("slice", S, 2, 2), ["s0", "s1", "s2", (3,), "s3", (4,)], s=four)
        self.happens(("slice", S, 2, 3), ["s0", "s1", "s2", (3,), "s3", (4,), "s4"], s=four)
        self.happens(("slice", S, 4, 1), ["s0", "s1", "s2", "s3", "s4"], s=four)
        self.happens(("slice", S, 9, 1), ["s0", "s1", "s2", "s3", "s4"], s=four)
        self.happens(("slice", S, 3, None), ["s0", "s1", "s2", "s3", (4,), "s4"], s=four)
        self.happens(("slice", S, 0, 10 ** 29), ["s0", (1,), "s1"], s=rows(1))
        self.happens(("slice", ("slice", S, 0, 2), 1, None), ["s0", "s1", (2,)], s=four)
        self.happens(("slice", ("slice", S, 1, None), 0, 1), ["s0", "s1", (2,)], s=four)
        self.happens(("slice", ("slice", S, 0, 0), 1, 1), [], s=four)

    def test_sort_and_group(self):
        self.happens(("sort", S, (("a", True),)), ["s0", "s1", "s2", "s3", (1,), (2,), (3,)], s=rows(3, 1, 2))
        self.happens(("sort", S, (("a", True),)), ["s0"], s=rows())
        self.happens(("group", S, ("a",), (("n", "count", "a"),)), ["s0", "s1", "s2", "s3", (3, 2), (1, 1)], s=rows(3, 1, 3))
        self.happens(("group", S, ("a",), ()), ["s0"], s=rows())
        self.happens(("slice", ("sort", S, (("a", False),)), 0, 1), ["s0", "s1", "s2", (2,)], s=rows(1, 2))
        self.happens(("sort", ("slice", S, 0, 2), (("a", True),)), ["s0", "s1", (2,), (3,)], s=rows(3, 2, 1))
        self.happens(("sort", ("slice", S, 0, 0), (("a", True),)), [], s=rows(3, 2, 1))
        self.happens(("slice", ("group", S, ("a",), ()), 0, 0), [], s=rows(3, 2, 1))
        self.happens(("where", ("sort", S, (("a", True),)), BELOW), ["s0", "s1", "s2", (2,)], s=rows(3, 2))

    def test_stack(self):
        self.happens(("stack", S, T), ["s0", (1,), "s1", "t0", (2,), "t1", (3,), "t2"], s=rows(1), t=rows(2, 3))
        self.happens(("stack", S, T), ["s0", "t0"], s=rows(), t=rows())
        self.happens(("slice", ("stack", S, T), 0, 1), ["s0", (1,)], s=rows(1), t=rows(2))
        self.happens(("slice", ("stack", S, T), 0, 2), ["s0", (1,), "s1", "t0", (2,)], s=rows(1), t=rows(2))
        self.happens(("stack", ("slice", S, 0, 1), T), ["s0", (1,), "t0", (2,), "t1"], s=rows(1, 5), t=rows(2))
        self.happens(("stack", S, ("sort", T, (("a", True),))), ["s0", (1,), "s1", "t0", "t1", "t2", (2,), (3,)],
                     s=rows(1), t=rows(3, 2))

    def test_join(self):
        def join(how):
            return ("join", S, T, (("a", "a"),), how)
        tables = {"s": rows(1, 2, None, 1), "t": (TWO, ((1, "x"), (3, "y"), (1, "z")))}
        before = ["t0", "t1", "t2", "t3", "s0"]
        self.happens(join("inner"), before + [(1, "x"), (1, "z"), "s1", "s2", "s3", (1, "x"), (1, "z"), "s4"], **tables)
        self.happens(join("left"), before + [(1, "x"), (1, "z"), "s1", (2, None), "s2", (None, None), "s3", (1, "x"), (1, "z"),
                                             "s4"], **tables)
        self.happens(join("semi"), before + [(1,), "s1", "s2", "s3", (1,), "s4"], **tables)
        self.happens(join("anti"), before + ["s1", (2,), "s2", (None,), "s3", "s4"], **tables)
        for how in ("inner", "left", "semi", "anti"):
            self.happens(join(how), ["t0", "t1", "s0"], s=rows(), t=(TWO, ((1, "x"),)))
        self.happens(join("inner"), ["t0", "s0", "s1"], s=rows(1), t=(TWO, ()))
        self.happens(("slice", join("inner"), 0, 1), before + [(1, "x")], **tables)
        self.happens(("slice", join("inner"), 0, 0), [], **tables)
        self.happens(("join", ("slice", S, 0, 1), ("slice", T, 0, 1), (("a", "a"),), "semi"), ["t0", "s0", (1,)], **tables)

    def test_a_source_that_is_scanned_twice_has_two_readers(self):
        self.happens(("stack", S, S), ["s0", (1,), "s1", "s0", (1,), "s1"], s=rows(1))
        self.happens(("join", S, S, (("a", "a"),), "semi"), ["s0", "s1", "s2", "s0", (1,), "s1", (2,), "s2"], s=rows(1, 2))
        self.happens(("join", S, ("slice", S, 1, None), (("a", "a"),), "anti"), ["s0", "s1", "s2", "s0", (1,), "s1", "s2"],
                     s=rows(1, 2))

    def test_random_plans(self):
        for seed in range(500):
            plan, tables = Maker(seed).case()
            feeds = {name: (table[0], Source(name, *table, [])) for name, table in tables.items()}
            expected = readers.outcome(plan, feeds)
            happened = []
            feeds = {name: (table[0], Source(name, *table, happened)) for name, table in tables.items()}
            for row in rows_of(plan, **feeds):
                happened.append(row)
            self.assertEqual(repr(happened), repr(expected), plan)
            for size in (1, 2, 3):
                happened.clear()
                for chunk in chunks(plan, size, **feeds):
                    happened.append([chunk])
                self.assertEqual(repr(happened), repr(self.chunked(expected, size, tables)), plan)

    def chunked(self, expected, size, tables):
        """All that happens if the rows come in tuples, each as soon as its last row is there."""
        wanted, chunk = [], ()
        for item in expected:
            # No text among the data is the name of a table, so no row is taken for a call.
            if item[0] in tables:
                wanted.append(item)
            else:
                chunk += (item,)
            if len(chunk) == size:
                wanted.append([chunk])
                chunk = ()
        return wanted + [[chunk]] * (len(chunk) > 0)


class ChunksTest(ErrorCase):
    def test_sizes(self):
        table = rows(1, 2, 3, 4, 5)
        self.assertEqual(traced(S, 1, s=rows(1, 2)), ["s0", ((1,),), "s1", ((2,),), "s2"])
        self.assertEqual(traced(S, 2, s=table), ["s0", "s1", ((1,), (2,)), "s2", "s3", ((3,), (4,)), "s4", "s5", ((5,),)])
        self.assertEqual(traced(S, 3, s=table), ["s0", "s1", "s2", ((1,), (2,), (3,)), "s3", "s4", "s5", ((4,), (5,))])
        self.assertEqual(traced(S, 5, s=table)[-2:], [tuple((n,) for n in range(1, 6)), "s5"])
        for size in (6, 100, 10 ** 29):
            self.assertEqual(traced(S, size, s=table)[-1], tuple((n,) for n in range(1, 6)))
        for size in (1, 2, 3):
            self.assertEqual(traced(S, size, s=rows()), ["s0"])
            self.assertEqual(traced(("slice", S, 0, 0), size, s=table), [])

    def test_no_row_is_wanted_before_its_tuple(self):
        self.assertEqual(traced(("slice", S, 1, 2), 2, s=rows(1, 2, 3, 4)), ["s0", "s1", "s2", ((2,), (3,))])
        self.assertEqual(traced(("slice", S, 0, 3), 2, s=rows(1, 2, 3, 4)), ["s0", "s1", ((1,), (2,)), "s2", ((3,),)])
        happened = []
        found = chunks(S, 2, s=(ONE, Source("s", *rows(1, 2, 3, 4, 5), happened)))
        self.assertEqual(happened, [])
        self.assertEqual((next(found), len(happened)), (((1,), (2,)), 2))
        self.assertEqual((next(found), len(happened)), (((3,), (4,)), 4))

    def test_invalid_numbers(self):
        for value in (0, -1, -10 ** 29, True, False, None, "1", "", (1,), [1], b"1", Odd()):
            self.refuses(InvalidNumber, {"number": value}, lambda: list(chunks(S, value, s=None)))
        for value in ANY_VALUES:
            if value is True or not isinstance(value, int):
                self.keeps(InvalidNumber, "number", value, lambda size: list(chunks(S, size)))

    def test_arguments_by_name(self):
        feed = (ONE, Source("s", *rows(1, 2, 3), []))
        self.assertEqual(list(chunks(s=feed, the_size=2, the_plan=S)), [((1,), (2,)), ((3,),)])
        self.assertEqual(list(chunks(S, the_size=2, s=feed)), [((1,), (2,)), ((3,),)])


class DemandTest(ErrorCase):
    def test_generators(self):
        feed = (ONE, Source("s", *rows(1), []))
        self.assertTrue(inspect.isgenerator(rows_of(S, s=feed)))
        self.assertTrue(inspect.isgenerator(chunks(S, 1, s=feed)))
        self.assertEqual(list(rows_of(s=feed, the_plan=S)), [(1,)])

    def test_nothing_is_asked_before_a_row_is_wanted(self):
        happened = []
        feeds = {"s": (ONE, Source("s", *rows(1, 2), happened)), "t": (ONE, Source("t", *rows(1, 2), happened))}
        for plan in (S, ("sort", S, (("a", True),)), ("join", S, T, (("a", "a"),), "inner"), ("stack", S, T)):
            found = rows_of(plan, **feeds)
            self.assertEqual(happened, [])
            next(found)
            self.assertNotEqual(happened, [])
            happened.clear()

    def test_nothing_is_asked_behind_a_break(self):
        for plan in (S, ("stack", S, S), ("where", ("first", S, ("a",)), YES), ("join", S, ("slice", S, 0, 0), (("a", "a"),), "left")):
            happened = []
            for _ in rows_of(plan, s=(ONE, Source("s", *rows(1, 2, 3), happened))):
                break
            self.assertEqual(happened, [("s", 0)])

    def test_a_node_that_has_ended_does_not_ask(self):
        for plan, last in ((S, 1), (("where", S, YES), 1), (("slice", S, 0, 1), 0), (("stack", S, ("slice", S, 0, 0)), 1),
                           (("sort", S, (("a", True),)), 1), (("first", S, ("a",)), 1), (("melt", S, (), ("a",), "l", "v"), 1)):
            happened = []
            found = rows_of(plan, s=(ONE, Source("s", *rows(1), happened)))
            self.assertEqual(len(list(found)), 1)
            self.assertEqual([next(found, None), next(found, None)], [None, None])
            self.assertEqual(happened, [("s", index) for index in range(last + 1)])

    def test_two_runs_do_not_disturb_each_other(self):
        feed = (ONE, Source("s", *rows(1, 2, 3), []))
        plan = ("running", ("first", S, ("a",)), "n", "sum", "a", ())
        one, other = rows_of(plan, s=feed), rows_of(plan, s=feed)
        self.assertEqual([next(one), next(other), next(one), next(other), next(one)], [(1, 1), (1, 1), (2, 3), (2, 3), (3, 6)])
        self.assertEqual(list(rows_of(plan, s=feed)), list(rows_of(plan, s=feed)))

    def test_a_feed_that_no_scan_reads(self):
        happened = []
        feeds = {"s": (ONE, Source("s", *rows(1), happened)), "t": (TWO, Source("t", TWO, (None,), happened))}
        self.assertEqual(list(rows_of(S, **feeds)), [(1,)])
        self.assertEqual(happened, [("s", 0), ("s", 1)])

    def test_functions_of_any_sort(self):
        def count(index):
            return (index,) if index < 3 else None

        class Reader:
            def read(self, index):
                return count(index)
        for function in (count, Reader().read, lambda index: count(index), {0: (0,), 1: (1,), 2: (2,)}.get):
            self.assertEqual(list(rows_of(S, s=(ONE, function))), [(0,), (1,), (2,)])

    def test_endless_sources(self):
        feed = (ONE, lambda index: (index,))
        plan = ("slice", ("where", S, ("eq", ("mod", A, ("value", "int", 7)), ("value", "int", 3))), 2, 2)
        self.assertEqual(list(rows_of(plan, s=feed)), [(17,), (24,)])
        self.assertEqual(next(chunks(S, 3, s=feed)), ((0,), (1,), (2,)))


class ErrorsTest(ErrorCase):
    def fails(self, kind, attributes, plan, size=1, **feeds):
        """Asks for an error of both functions, as soon as the first item is asked for."""
        self.refuses(kind, attributes, lambda: next(rows_of(plan, **feeds)))
        self.refuses(kind, attributes, lambda: next(chunks(plan, size, **feeds)))

    def no(self, index):
        """A function that must not be called."""
        self.fail("called")

    def test_invalid_plans(self):
        for value in ANY_VALUES:
            self.fails(InvalidPlan, {"path": ()}, value, "no size", A=None)
        self.fails(InvalidPlan, {"path": (0,)}, ("where", ("scan", "S"), YES), 0)
        for plan, _ in PLAN_TEXTS:
            self.fails(InvalidPlan, {"path": ()}, [*plan])

    def test_names_and_feeds(self):
        good = (ONE, self.no)
        self.fails(InvalidName, {"name": "B"}, S, a=good, B=None, C=None, s=good)
        self.fails(InvalidName, {"name": "abcdefghi"}, S, abcdefghi=good, b=None)
        self.fails(InvalidName, {"name": ""}, S, **{"": good})
        self.fails(InvalidName, {"name": "the_rows"}, S, the_rows=good, s=good, zz=None)
        self.fails(InvalidFeed, {"name": "a"}, S, b=None, a=None)
        self.fails(InvalidFeed, {"name": "a"}, S, a=None, s=good, **{"b c": good})
        self.fails(InvalidFeed, {"name": "t"}, S, s=good, t=())
        for wrong in ANY_VALUES + ((ONE,), (ONE, self.no, self.no), [ONE, self.no], (None, self.no), ((), self.no),
                                   (list(ONE), self.no), ((("a", "float"),), self.no), ((("a", "int"), ("a", "int")), self.no),
                                   ((("a", "int", 1),), self.no), ((["a", "int"],), self.no), (Odd(), self.no), (self.no, ONE)):
            self.fails(InvalidFeed, {"name": "s"}, S, s=wrong, t=None)
            self.fails(InvalidFeed, {"name": "t"}, ("scan", "zz"), s=good, t=wrong)

    def test_errors_of_plans(self):
        good = (ONE, self.no)
        self.fails(UnknownSource, {"name": "t"}, T, s=good)
        self.fails(UnknownSource, {"name": "s"}, S)
        self.fails(UnknownSource, {"name": "t"}, ("stack", S, ("sort", T, (("zz", True),))), s=good)
        self.fails(UnknownColumn, {"name": "b"}, ("stack", ("pick", S, ("b",)), T), s=good)
        self.fails(WrongKind, {"word": "where"}, ("slice", ("where", S, A), 0, 0), s=good)
        self.fails(DifferentSchemas, {}, ("slice", ("stack", S, T), 0, 1), s=good, t=(TWO, self.no))

    def test_their_sequence(self):
        self.refuses(InvalidPlan, {"path": ()}, lambda: next(chunks(None, None, A=None)))
        self.refuses(InvalidNumber, {"number": None}, lambda: next(chunks(("scan", "zz"), None, A=None)))
        self.refuses(InvalidName, {"name": "A"}, lambda: next(chunks(("scan", "zz"), 1, A=None, s=None)))
        self.refuses(InvalidFeed, {"name": "s"}, lambda: next(chunks(("scan", "zz"), 1, s=None)))
        self.refuses(UnknownSource, {"name": "zz"}, lambda: next(chunks(("scan", "zz"), 1, s=(ONE, self.no))))

    def test_errors_come_at_the_latest_with_the_first_item(self):
        for plan in (S, ("slice", S, 0, 0)):
            try:
                found = rows_of(plan, s=None)
            except InvalidFeed:
                continue
            self.refuses(InvalidFeed, {"name": "s"}, next, found, None)

    def test_invalid_rows(self):
        for wrong in [value for value in ANY_VALUES if value is not None] + [(True,), ("1",), (1, 2), [1], (None, None), ((1,),), "a"]:
            found = rows_of(S, s=(ONE, ((1,), (None,), wrong, None).__getitem__))
            self.assertEqual([next(found), next(found)], [(1,), (None,)])
            self.refuses(InvalidRow, {"index": 2}, next, found)
            self.refuses(InvalidRow, {"index": 0}, lambda: list(rows_of(S, s=(ONE, lambda index: wrong))))
            found = chunks(S, 1, s=(ONE, ((1,), wrong).__getitem__))
            self.assertEqual(next(found), ((1,),))
            self.refuses(InvalidRow, {"index": 1}, next, found)
            self.refuses(InvalidRow, {"index": 1}, next, chunks(S, 3, s=(ONE, ((1,), wrong).__getitem__)))

    def test_invalid_rows_deeper_down(self):
        bad = (ONE, ((1,), (2,), False).__getitem__)
        self.refuses(InvalidRow, {"index": 2}, next, rows_of(("sort", S, (("a", True),)), s=bad))
        self.refuses(InvalidRow, {"index": 2}, next, rows_of(("join", T, S, (("a", "a"),), "anti"), s=bad, t=(ONE, self.no)))
        self.refuses(InvalidRow, {"index": 2}, next, rows_of(("where", S, ("lt", ("value", "int", 2), A)), s=bad))
        self.assertEqual(list(rows_of(("slice", S, 0, 2), s=bad)), [(1,), (2,)])
        found = rows_of(("stack", S, T), s=(ONE, ((1,), None).__getitem__), t=(ONE, ((5,), (6, 7)).__getitem__))
        self.assertEqual([next(found), next(found)], [(1,), (5,)])
        self.refuses(InvalidRow, {"index": 1}, next, found)

    def test_errors_of_functions_are_raised_further(self):
        def broken(index):
            if index == 1:
                raise KeyError("broken")
            return (index,)
        found = rows_of(("first", S, ("a",)), s=(ONE, broken))
        self.assertEqual(next(found), (0,))
        self.assertRaises(KeyError, next, found)
        self.assertEqual(list(found), [])


if __name__ == "__main__":
    unittest.main()
