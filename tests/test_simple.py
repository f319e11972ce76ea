"""Tests of points 18 to 20 and of labelframes.simple."""

import unittest

from labelframes.errors import DifferentSchemas, InvalidPlan, InvalidSchemas, NotSimple, UnknownColumn, UnknownSource, WrongKind
from labelframes.forms import plan_fault
from labelframes.frames import Frame, House
from labelframes.plans import schema_of
from labelframes.running import run
from labelframes.simple import alike, correspondence, difference, is_simple
from tests.cases import A, ANY_VALUES, B, PLAN_TEXTS, S, YES, ErrorCase
from tests.queries import SCHEMAS as RANDOM_SCHEMAS
from tests.queries import Writer, bag, correspond, maps

SCHEMAS = (("n", (("f", "int"),)), ("s", (("a", "int"), ("b", "int"), ("c", "text"), ("d", "bool"))),
           ("t", (("k", "int"), ("l", "text"), ("m", "bool"))))
KINDS = {source: dict(schema) for source, schema in SCHEMAS}
C, D = ("col", "c"), ("col", "d")
T = ("scan", "t")
SA = ("pick", S, ("a",))


def number(value):
    return ("value", "int", value)


def eq(x, y):
    return ("eq", x, y)


def where(plan, *tests):
    for test in tests:
        plan = ("where", plan, test)
    return plan


def join(p, q, *pairs, how="inner"):
    return ("join", p, q, pairs, how)


def copies(many, names="a", source="s"):
    """A plan that joins a source with itself, so many scans in all, by the column a."""
    plan = ("pick", ("scan", source), tuple(names))
    for _ in range(many - 1):
        plan = join(plan, ("pick", ("scan", source), ("a",)), ("a", "a"))
    return plan


class ExamplesTest(unittest.TestCase):
    def test_first_example(self):
        schemas = (("r", (("a", "int"), ("b", "int"))),)
        left = ("join", ("scan", "r"), ("rename", ("scan", "r"), "b", "c"), (("a", "a"),), "inner")
        one, two = ("pick", left, ("b", "c")), ("rename", ("rename", ("pick", left, ("c", "b")), "b", "d"), "c", "b")
        other = ("rename", two, "d", "c")
        self.assertEqual([is_simple(one, schemas), alike(one, other, schemas), correspondence(one, other, schemas)],
                         [True, True, (1, 0)])

    def test_second_example(self):
        schemas = (("r", (("a", "int"), ("b", "int"))),)
        one = ("pick", ("scan", "r"), ("a",))
        other = ("pick", ("join", ("scan", "r"), ("rename", ("scan", "r"), "b", "c"), (("a", "a"),), "inner"), ("a",))
        house = difference(one, other, schemas)
        self.assertFalse(sorted(map(str, run(one, house).rows)) == sorted(map(str, run(other, house).rows)))


class IsSimpleTest(ErrorCase):
    def simple(self, *plans):
        for plan in plans:
            self.assertIs(is_simple(plan, SCHEMAS), True, plan)

    def not_simple(self, *plans):
        for plan in plans:
            schema_of(plan, SCHEMAS)
            self.assertIs(is_simple(plan, SCHEMAS), False, plan)

    def test_numbers_of_scans(self):
        self.simple(*[copies(many) for many in range(1, 6)])
        self.not_simple(copies(6), copies(7), join(copies(3), copies(3), ("a", "a")))
        self.simple(join(copies(3), copies(2), ("a", "a")))

    def test_forms(self):
        self.simple(SA, ("rename", SA, "a", "z"), where(SA, eq(A, A)), join(SA, SA, ("a", "a")), ("scan", "n"))
        keys = (("a", True),)
        for plan in (("with", SA, "z", A), ("sort", SA, keys), ("slice", SA, 0, None), ("first", SA, ("a",)), ("stack", SA, SA),
                     ("group", SA, ("a",), ()), ("running", SA, "n", "sum", "a", ()), ("melt", SA, ("a",), ("a",), "l", "v")):
            if plan_fault(plan) is not None:
                plan = ("melt", ("pick", S, ("a", "b")), ("a",), ("b",), "l", "v")
            self.not_simple(plan, where(("pick", plan, ("a",)), eq(A, A)) if "a" in dict(schema_of(plan, SCHEMAS)) else plan,
                            join(SA, ("pick", plan, ("a",)), ("a", "a")))

    def test_kinds_of_joins(self):
        for how, answer in (("inner", True), ("left", False), ("semi", False), ("anti", False)):
            self.assertIs(is_simple(join(SA, SA, ("a", "a"), how=how), SCHEMAS), answer)
            self.assertIs(is_simple(join(SA, join(SA, SA, ("a", "a"), how=how), ("a", "a")), SCHEMAS), answer)

    def test_expressions(self):
        ab = ("pick", S, ("a", "b", "c"))
        good = [eq(A, B), eq(A, number(1)), eq(number(1), A), eq(C, ("value", "text", "")), eq(A, A)]
        for test in good:
            self.simple(where(ab, test), where(ab, ("and", test, good[0])), where(ab, ("and", ("and", good[1], test), good[2])))
        self.simple(where(ab, ("and", ("and", good[0], good[1]), ("and", good[2], ("and", good[3], good[4])))))
        bad = [eq(number(1), number(1)), eq(A, number(None)), eq(number(None), A), eq(A, ("add", B, number(1))),
               eq(("add", B, number(1)), A), eq(("size", C), A), ("lt", A, B), ("le", A, B), ("not", eq(A, B)), ("there", A), YES,
               ("value", "bool", None), ("or", eq(A, B), eq(A, B)), ("and", eq(A, B), YES), ("and", YES, eq(A, B)),
               ("and", eq(A, B), ("or", eq(A, B), eq(A, B))), ("else", eq(A, B), eq(A, B)), ("if", eq(A, B), eq(A, B), eq(A, A)),
               eq(eq(A, B), YES), eq(A, ("if", eq(A, B), A, B)), eq(C, ("glue", C, C)), ("eq", A, ("else", A, B))]
        for test in bad:
            self.not_simple(where(ab, test), where(ab, good[0], test), where(where(ab, test), good[0]),
                            where(ab, ("and", good[0], test)), where(ab, ("and", ("and", test, good[0]), good[1])),
                            join(SA, ("pick", where(S, test), ("a",)), ("a", "a")))

    def test_columns_of_kind_bool(self):
        self.not_simple(S, ("pick", S, ("a", "d")), ("pick", where(S, eq(D, D)), ("a",)), ("pick", where(S, eq(D, YES)), ("a",)),
                        ("pick", where(S, eq(YES, D)), ("a",)), ("pick", where(S, ("and", eq(A, B), eq(D, YES))), ("a",)),
                        ("pick", join(S, T, ("d", "m")), ("a",)), ("pick", join(S, T, ("a", "k"), ("d", "m")), ("a",)),
                        join(("pick", S, ("a",)), T, ("a", "k")), ("rename", ("pick", S, ("d",)), "d", "a"))
        self.simple(("pick", S, ("a",)), ("pick", where(S, eq(A, B)), ("b",)), ("pick", join(S, T, ("a", "k")), ("l",)),
                    ("pick", ("rename", S, "d", "e"), ("c",)))

    def test_errors(self):
        for value in ANY_VALUES:
            self.refuses(InvalidPlan, {"path": ()}, is_simple, value, None)
            if value != ():
                index = 0 if isinstance(value, tuple) else None
                self.refuses(InvalidSchemas, {"index": index}, is_simple, ("scan", "zz"), value)
        self.refuses(UnknownSource, {"name": "zz"}, is_simple, ("slice", ("scan", "zz"), 0, 1), SCHEMAS)
        self.refuses(UnknownColumn, {"name": "z"}, is_simple, ("sort", S, (("z", True),)), SCHEMAS)
        self.refuses(WrongKind, {"word": "eq"}, is_simple, where(S, eq(A, C)), SCHEMAS)
        self.assertIs(is_simple(schemas=SCHEMAS, plan=SA), True)


class PairsTest(ErrorCase):
    """What the other tests ask with."""

    def same(self, one, other, *mappings, schemas=SCHEMAS):
        """Asks that two plans give the same, and that the places are mapped in one of these ways."""
        for plan, further, back in ((one, other, False), (other, one, True)):
            self.assertIs(alike(plan, further, schemas), True)
            self.assertIs(difference(plan, further, schemas), None)
            found = correspondence(plan, further, schemas)
            self.assertIs(type(found), tuple)
            expected = [tuple(sorted(range(len(each)), key=lambda place: each[place])) for each in mappings] if back else mappings
            self.assertIn(found, expected)
            self.assertEqual(correspondence(plan, further, schemas), found)

    def different(self, one, other, schemas=SCHEMAS):
        """Asks that two plans do not give the same, and for data that show it."""
        for plan, further in ((one, other), (other, one)):
            self.assertIs(alike(plan, further, schemas), False)
            self.assertIs(correspondence(plan, further, schemas), None)
            house = difference(plan, further, schemas)
            self.assertIs(type(house), House)
            self.assertEqual(house.schemas, schemas)
            self.assertNotEqual(bag(run(plan, house).rows), bag(run(further, house).rows))
            self.assertEqual(difference(plan, further, schemas), house)


class CorrespondenceTest(PairsTest):
    ABC = ("pick", S, ("a", "b", "c"))

    def test_conditions_written_otherwise(self):
        abc = self.ABC
        three = [eq(A, B), eq(B, number(4)), eq(C, ("value", "text", "x"))]
        plan = where(abc, *three)
        for other in (where(abc, ("and", ("and", *three[:2]), three[2])), where(abc, ("and", three[2], ("and", three[1], three[0]))),
                      where(abc, *reversed(three)), where(abc, eq(B, A), eq(A, number(4)), eq(("value", "text", "x"), C)),
                      where(abc, *three, *three), where(abc, eq(A, number(4)), eq(B, number(4)), three[2]),
                      where(abc, *three, eq(A, A)), where(abc, ("and", three[0], three[0]), *three),
                      ("pick", where(S, *three), ("a", "b", "c"))):
            self.same(plan, other, (0,))

    def test_inner_names(self):
        plan = where(("pick", S, ("b",)), eq(B, number(1)))
        self.same(plan, ("rename", where(("rename", ("pick", S, ("b",)), "b", "z"), eq(("col", "z"), number(1))), "z", "b"), (0,))
        turned = ("rename", ("rename", ("rename", self.ABC, "a", "z"), "b", "a"), "z", "b")
        self.same(("pick", ("rename", turned, "c", "y"), ("a",)), ("rename", ("pick", S, ("b",)), "b", "a"), (0,))
        self.different(("pick", turned, ("a",)), ("pick", S, ("a",)))

    def test_columns_that_are_picked_behind(self):
        t = ("rename", ("pick", T, ("k", "l")), "k", "a")
        self.same(("pick", join(SA, t, ("a", "a")), ("a",)), ("pick", join(S, T, ("a", "k")), ("a",)), (0, 1))
        # The two columns of a pair are tied, so either of them may stand for the other.
        self.same(("rename", ("pick", join(T, S, ("k", "a")), ("k",)), "k", "a"), ("pick", join(S, T, ("a", "k")), ("a",)), (1, 0))

    def test_joins_in_another_sequence(self):
        k = ("pick", T, ("k",))
        n = ("scan", "n")
        one = join(join(SA, k, ("a", "k")), n, ("a", "f"))
        self.same(one, join(join(SA, n, ("a", "f")), k, ("a", "k")), (0, 2, 1))
        self.same(one, join(SA, join(k, n, ("k", "f")), ("a", "k")), (0, 1, 2))
        self.same(one, ("rename", join(join(n, k, ("f", "k")), SA, ("f", "a")), "f", "a"), (2, 1, 0))
        self.different(one, join(SA, k, ("a", "k")))

    def test_pairs_and_conditions(self):
        both = join(("pick", S, ("a", "b")), ("rename", ("pick", S, ("a", "b")), "b", "z"), ("a", "a"), ("b", "z"))
        one = join(("pick", S, ("a", "b")), ("rename", ("pick", S, ("a", "b")), "b", "z"), ("a", "a"))
        self.same(both, ("pick", where(one, eq(B, ("col", "z"))), ("a", "b")), (0, 1), (1, 0))
        self.different(both, ("pick", one, ("a", "b")))

    def test_a_column_of_a_pair_with_the_name_of_another_column(self):
        left = ("rename", ("pick", S, ("a", "b")), "b", "k")
        right = ("pick", T, ("k", "l"))
        # The column k of the result is that of the left input; the one of the right input is left out, for it is in a pair.
        one = ("pick", join(left, right, ("a", "k")), ("k", "l"))
        other = ("rename", ("pick", join(left, ("rename", right, "k", "z"), ("a", "z")), ("k", "l")), "k", "k" * 2)
        self.same(one, ("rename", other, "k" * 2, "k"), (0, 1))
        self.different(one, ("rename", ("pick", join(left, right, ("a", "k")), ("a", "l")), "a", "k"))
        tied = where(join(left, right, ("a", "k")), eq(A, ("col", "k")))
        self.different(join(left, right, ("a", "k")), tied)
        self.same(("pick", tied, ("a", "l")), ("rename", ("pick", tied, ("k", "l")), "k", "a"), (0, 1))

    def test_one_thing_otherwise(self):
        abc = self.ABC
        plan = where(abc, eq(A, B), eq(C, ("value", "text", "x")))
        for other in (abc, where(abc, eq(A, B)), where(abc, eq(C, ("value", "text", "x"))),
                      where(abc, eq(A, B), eq(C, ("value", "text", "X"))), where(abc, eq(A, B), eq(C, ("value", "text", ""))),
                      where(plan, eq(A, number(0))), where(abc, eq(A, A), eq(B, B), eq(C, ("value", "text", "x"))),
                      where(abc, eq(A, number(3)), eq(B, number(3)), eq(C, ("value", "text", "x"))),
                      join(plan, SA, ("a", "a")), join(plan, ("scan", "n"), ("a", "f"))):
            self.different(plan, other)
        self.different(join(SA, ("scan", "n"), ("a", "f")), join(SA, ("pick", T, ("k",)), ("a", "k")))

    def test_values(self):
        for one, other in ((0, 1), (1, -1), (10 ** 29, 10 ** 29 + 1), (0, 10 ** 30 - 1)):
            self.different(where(SA, eq(A, number(one))), where(SA, eq(A, number(other))))
            self.same(where(SA, eq(A, number(one))), where(SA, eq(number(one), A)), (0,))
        # Data that are made must be told apart from the values of both plans.
        self.different(where(self.ABC, eq(A, number(0)), eq(B, number(1))), where(self.ABC, eq(A, number(1)), eq(B, number(0))))
        for value in range(12):
            text = ("value", "text", str(value))
            for test in (eq(A, number(value)), eq(C, text), ("and", eq(A, number(value)), eq(C, text))):
                self.different(self.ABC, where(self.ABC, test))
                self.different(where(self.ABC, eq(A, A), eq(C, C)), where(self.ABC, eq(A, A), eq(C, C), test))
                self.different(where(self.ABC, eq(A, B), eq(C, C)), where(self.ABC, eq(A, B), eq(C, C), test))

    def test_result_columns(self):
        plan = ("pick", S, ("a", "b"))
        turned = ("rename", ("rename", ("rename", ("pick", S, ("b", "a")), "a", "z"), "b", "a"), "z", "b")
        self.different(plan, turned)
        self.same(where(plan, eq(A, B)), where(turned, eq(A, B)), (0,))
        left = ("rename", ("pick", S, ("a", "b")), "b", "y")
        right = ("rename", ("pick", S, ("a", "b")), "b", "z")
        twice = join(left, right, ("a", "a"))
        self.same(("pick", twice, ("y", "z")), ("rename", ("rename", ("rename", ("pick", twice, ("z", "y")), "z", "x"), "y", "z"),
                                                "x", "y"), (1, 0))
        same = where(twice, eq(("col", "y"), ("col", "z")))
        self.same(("pick", same, ("y", "z")), ("pick", same, ("y", "z")), (0, 1), (1, 0))
        self.different(("pick", same, ("y", "z")), ("pick", twice, ("y", "z")))

    def test_a_column_that_is_only_tied_to_itself(self):
        abc = self.ABC
        self.different(abc, where(abc, eq(A, A)))
        self.different(where(abc, eq(B, B)), where(abc, eq(A, A)))
        self.different(("pick", S, ("a",)), ("pick", where(S, eq(B, B)), ("a",)))
        self.different(("pick", where(S, eq(A, A)), ("a",)), ("pick", where(S, eq(B, B)), ("a",)))
        self.same(where(abc, eq(A, A)), where(abc, eq(A, A), ("and", eq(A, A), eq(A, A))), (0,))
        self.same(where(abc, eq(A, number(1))), where(abc, eq(A, A), eq(A, number(1))), (0,))
        one = join(("pick", S, ("a", "b")), ("pick", where(S, eq(B, B)), ("a",)), ("a", "a"))
        other = join(("pick", where(S, eq(B, B)), ("a", "b")), SA, ("a", "a"))
        self.different(one, other)
        self.same(("pick", one, ("a",)), ("pick", other, ("a",)), (1, 0))
        house = difference(abc, where(abc, eq(A, A)), SCHEMAS)
        self.assertIn(None, house["s"].column("a"))

    def test_void_plans(self):
        void = [where(SA, eq(A, number(1)), eq(A, number(2))), where(SA, ("and", eq(A, number(2)), eq(number(3), A))),
                ("pick", where(S, eq(A, B), eq(A, number(1)), eq(B, number(2))), ("a",)),
                ("pick", where(S, eq(C, ("value", "text", "")), eq(C, ("value", "text", " "))), ("a",)),
                join(where(SA, eq(A, number(1))), where(SA, eq(A, number(2))), ("a", "a")),
                where(copies(5), eq(A, number(1)), eq(A, number(2))),
                ("rename", ("pick", join(where(T, eq(("col", "k"), number(1)), eq(("col", "k"), number(0))), SA, ("k", "a")),
                            ("k",)), "k", "a")]
        for one in void:
            for other in void:
                self.same(one, other, ())
            for other in (SA, where(SA, eq(A, number(1))), copies(5), where(SA, eq(A, A))):
                self.different(one, other)

    def test_ties_through_values(self):
        ab = ("pick", S, ("a", "b"))
        one = where(ab, eq(A, number(5)), eq(B, number(5)))
        self.same(one, where(ab, eq(A, B), eq(B, number(5))), (0,))
        self.different(one, where(ab, eq(A, number(5)), eq(B, number(6))))
        self.different(one, where(ab, eq(A, number(5))))
        left = where(("rename", ab, "b", "y"), eq(A, number(5)))
        right = where(("rename", ab, "b", "z"), eq(A, number(5)))
        by_a = join(left, right, ("a", "a"))
        by_y = join(where(left, eq(("col", "y"), number(5))), right, ("y", "a"))
        self.same(where(by_a, eq(("col", "y"), number(5))), by_y, (0, 1))
        self.different(by_a, by_y)

    def test_five_places(self):
        five = copies(5, "ab")
        self.same(five, join(copies(2, "ab"), copies(3), ("a", "a")), *[mapping for mapping in orders(5) if mapping[0] == 0])
        self.same(copies(5), copies(5), *orders(5))
        self.different(copies(5), copies(4))
        self.different(copies(5), copies(1))
        self.different(path("klmno", "ka", "ob"), path("klmno", "ob", "ka"), RANDOM_SCHEMAS)
        self.same(path("klmno", "ka", "ob"), path("onmlk", "ka", "ob"), (4, 3, 2, 1, 0), schemas=RANDOM_SCHEMAS)
        self.different(path("klmno", "ka", "ob"), path("onmlk", "ob", "ka"), RANDOM_SCHEMAS)
        self.different(path("klmno", "ka", "lb"), path("klmno", "ka", "mb"), RANDOM_SCHEMAS)
        ring = path("klmno", "ka", "mb", eq(("col", "ka"), ("col", "ob")))
        self.same(ring, path("onmlk", "ka", "na", eq(("col", "ob"), ("col", "ka"))), (4, 3, 2, 1, 0), schemas=RANDOM_SCHEMAS)
        # The rows of a ring that begins elsewhere are the same, for no place in it is the first one.
        self.same(ring, path("klmno", "kb", "nb", eq(("col", "ka"), ("col", "ob"))), (1, 2, 3, 4, 0), schemas=RANDOM_SCHEMAS)
        self.different(ring, path("klmno", "kb", "mb", eq(("col", "ka"), ("col", "ob"))), RANDOM_SCHEMAS)
        self.different(ring, path("klmno", "ka", "mb"), RANDOM_SCHEMAS)

    def test_differences_stay_small(self):
        pairs = [(copies(5), copies(4)), (copies(5), where(copies(5), eq(A, number(1)))), (copies(4, "ab"), copies(5, "ab"))]
        for one, other in pairs:
            house = difference(one, other, SCHEMAS)
            self.assertLessEqual(sum(len(house[name]) for name in house.names), 5)

    def test_sources_without_places(self):
        schemas = SCHEMAS + (("zero", (("z", "bool"),)),)
        self.different(SA, copies(2), schemas)
        self.same(SA, SA, (0,), schemas=schemas)
        self.assertEqual(difference(SA, copies(2), schemas)["zero"], Frame((("z", "bool"),)))

    def test_wide_and_long_names(self):
        schema = tuple((name * 8, kind) for name, kind in zip("abcdefghijkl", ("int", "text", "bool") * 4))
        schemas = (("source", schema),)
        plan = ("pick", ("scan", "source"), ("a" * 8, "b" * 8))
        test = eq(("col", "d" * 8), ("col", "g" * 8))
        self.same(("pick", where(("scan", "source"), test), ("a" * 8, "b" * 8)),
                  ("pick", where(("scan", "source"), eq(test[2], test[1])), ("a" * 8, "b" * 8)), (0,), schemas=schemas)
        self.different(plan, ("pick", where(("scan", "source"), test), ("a" * 8, "b" * 8)), schemas)


def orders(many):
    """All mappings of so many places."""
    if many == 0:
        return [()]
    return [order[:at] + (many - 1,) + order[at:] for order in orders(many - 1) for at in range(many)]


def path(letters, first, last, *tests):
    """A plan that joins five places by the column b of each and a of the next one, from either end, with two columns."""
    forward = letters[0] < letters[-1]
    plan = None
    for at, letter in enumerate(letters):
        place = ("rename", ("rename", ("scan", "r"), "a", letter + "a"), "b", letter + "b")
        before = letters[at - 1]
        if plan is None:
            plan = place
        elif forward:
            plan = join(plan, place, (before + "b", letter + "a"))
        else:
            plan = join(plan, place, (before + "a", letter + "b"))
    return ("rename", ("rename", ("pick", where(plan, *tests), (first, last)), first, "x"), last, "y")


class RandomQueriesTest(PairsTest):
    def test_random_queries(self):
        seen = {True: 0, False: 0, "void": 0}
        for seed in range(400):
            writer = Writer(seed)
            kinds = writer.random.choice((("int",), ("int", "int"), ("int", "text"), ("text",)))
            query = writer.query(kinds)
            bent = writer.bent(query) if writer.random.random() < 0.8 else writer.query(kinds)
            plans = [writer.plan(query), writer.plan(query), writer.plan(bent)]
            if None not in plans:
                for plan in plans:
                    self.assertIs(is_simple(plan, RANDOM_SCHEMAS), True, plan)
                self.agrees(query, query, plans[0], plans[1], writer, seen)
                self.agrees(query, bent, plans[0], plans[2], writer, seen)
        self.assertGreater(min(seen[True], seen[False]), 100)
        self.assertGreater(seen["void"], 4)

    def agrees(self, query, further, one, other, writer, seen):
        """Asks that two plans are told apart exactly if their queries do not correspond."""
        expected = correspond(query, further)
        seen[expected] += 1
        if not expected:
            self.different(one, other, RANDOM_SCHEMAS)
            return
        self.assertIs(alike(one, other, RANDOM_SCHEMAS), True)
        self.assertIs(difference(one, other, RANDOM_SCHEMAS), None)
        found = correspondence(one, other, RANDOM_SCHEMAS)
        self.assertEqual(found == (), query.is_void())
        seen["void"] += query.is_void()
        if found != ():
            self.assertTrue(maps(mapped(found, query, further, one, other), query, further))
        house = House(**{name: Frame(schema, writer.rows(schema)) for name, schema in RANDOM_SCHEMAS})
        self.assertEqual(bag(run(one, house).rows), bag(run(other, house).rows))


def scans(plan):
    """The places of a query in the sequence in which a plan of it, as tests.queries writes it, scans them."""
    if plan[0] == "scan":
        return [None]
    if plan[0] == "rename" and len(plan[3]) == 2:
        return ["klmno".index(plan[3][0])]
    return scans(plan[1]) + (scans(plan[2]) if plan[0] == "join" else [])


def mapped(mapping, query, further, one, other):
    """The mapping of the places of a query that a mapping of the scans of its plans stands for."""
    places, others = scans(one), scans(other)
    return [others[mapping[places.index(place)]] for place in range(len(query.sources))]


class ErrorsTest(ErrorCase):
    FUNCTIONS = (correspondence, alike, difference)

    def fails(self, kind, attributes, plan, other, schemas=SCHEMAS):
        for function in self.FUNCTIONS:
            self.refuses(kind, attributes, function, plan, other, schemas)

    def test_plans(self):
        for value in ANY_VALUES:
            self.fails(InvalidPlan, {"path": ()}, value, None, None)
            self.fails(InvalidPlan, {"path": ()}, ("scan", "zz"), value, None)
        self.fails(InvalidPlan, {"path": (0,)}, ("pick", None, ("a",)), None)
        self.fails(InvalidPlan, {"path": (1,)}, SA, join(SA, None, ("a", "a")))

    def test_schemas(self):
        for value in ANY_VALUES:
            if value != ():
                self.fails(InvalidSchemas, {"index": 0 if isinstance(value, tuple) else None}, ("scan", "zz"), ("scan", "yy"), value)
        self.fails(InvalidSchemas, {"index": 1}, SA, SA, SCHEMAS[1:2] * 2)

    def test_their_sequence(self):
        sorted_plan = ("sort", SA, (("a", True),))
        self.fails(UnknownSource, {"name": "zz"}, ("scan", "zz"), ("scan", "yy"))
        self.fails(UnknownSource, {"name": "yy"}, sorted_plan, ("scan", "yy"))
        self.fails(UnknownSource, {"name": "s"}, SA, SA, ())
        self.fails(WrongKind, {"word": "eq"}, S, where(S, eq(A, C)))
        self.fails(NotSimple, {}, sorted_plan, ("scan", "n"))
        self.fails(NotSimple, {}, ("scan", "n"), sorted_plan)
        self.fails(NotSimple, {}, S, S)
        self.fails(NotSimple, {}, copies(6), copies(6))
        self.fails(DifferentSchemas, {}, SA, ("scan", "n"))
        self.fails(DifferentSchemas, {}, SA, ("pick", S, ("b",)))
        self.fails(DifferentSchemas, {}, SA, ("rename", ("pick", S, ("c",)), "c", "a"))
        self.fails(DifferentSchemas, {}, ("pick", S, ("a", "b")), ("pick", S, ("b", "a")))
        self.fails(DifferentSchemas, {}, ("pick", S, ("a", "b")), SA)
        void = where(SA, eq(A, number(1)), eq(A, number(2)))
        self.fails(DifferentSchemas, {}, void, ("rename", void, "a", "b"))

    def test_arguments_by_name(self):
        self.assertEqual(correspondence(schemas=SCHEMAS, other=SA, plan=SA), (0,))
        self.assertIs(alike(SA, other=SA, schemas=SCHEMAS), True)
        self.assertIs(difference(SA, schemas=SCHEMAS, other=SA), None)

    def test_forms_that_have_no_schema_here(self):
        for plan, _ in PLAN_TEXTS:
            for function in self.FUNCTIONS:
                with self.assertRaises(Exception) as caught:
                    function(plan, plan, ())
                self.assertIs(type(caught.exception), UnknownSource)


if __name__ == "__main__":
    unittest.main()
