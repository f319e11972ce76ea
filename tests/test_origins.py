"""Tests of points 16 and 17 and of labelframes.origins."""

import unittest

from labelframes.errors import InvalidPlan, NotAHouse, UnknownColumn, UnknownSource
from labelframes.frames import Frame, House
from labelframes.origins import narrowed, origins
from labelframes.running import run
from tests import tracing
from tests.cases import A, ANY_VALUES, S, T, TEN, ErrorCase
from tests.oracle import Maker

HOUSE = House(s=Frame((("a", "int"), ("b", "text")), ((2, "x"), (None, "y"), (1, "x"), (2, "x"), (3, None))),
              t=Frame((("k", "text"), ("c", "int")), (("x", 7), ("z", 8), ("x", 9), (None, 5))))


def of(source, *indexes):
    """An origin of rows of one source."""
    return tuple((source, index) for index in indexes)


def join(how, p=S, q=T):
    return ("join", p, q, (("b", "k"),), how)


class ExampleTest(unittest.TestCase):
    def test_example(self):
        s = Frame((("a", "int"), ("b", "text")), ((1, "x"), (2, "y"), (3, "x")))
        t = Frame((("b", "text"),), (("x",), ("x",)))
        house = House(s=s, t=t)
        found = origins(("group", ("join", ("scan", "s"), ("scan", "t"), (("b", "b"),), "semi"), ("b",), ()), house)
        self.assertEqual([found, narrowed(house, found[0])["s"].rows],
                         [((('s', 0), ('s', 2), ('t', 0)),), ((1, 'x'), (3, 'x'))])


class OriginsTest(ErrorCase):
    def comes_from(self, plan, *expected):
        """Asks for the origins of the rows of a plan."""
        found = origins(plan, HOUSE)
        self.assertEqual(found, expected)
        self.assertEqual(len(found), len(run(plan, HOUSE)))

    def from_s(self, plan, *indexes):
        """Asks that each row of a plan comes from one row of s."""
        self.comes_from(plan, *[of("s", index) for index in indexes])

    def test_forms_with_the_rows_of_their_input(self):
        self.from_s(S, 0, 1, 2, 3, 4)
        self.from_s(("where", S, ("lt", A, ("value", "int", 3))), 0, 2, 3)
        self.from_s(("where", S, ("value", "bool", None)))
        self.from_s(("pick", S, ("b",)), 0, 1, 2, 3, 4)
        self.from_s(("rename", S, "a", "z"), 0, 1, 2, 3, 4)
        self.from_s(("with", S, "z", TEN), 0, 1, 2, 3, 4)
        self.from_s(("with", S, "a", TEN), 0, 1, 2, 3, 4)
        self.from_s(("sort", S, (("a", True),)), 2, 0, 3, 4, 1)
        self.from_s(("sort", S, (("a", False),)), 4, 0, 3, 2, 1)
        self.from_s(("slice", S, 1, 2), 1, 2)
        self.from_s(("slice", S, 3, None), 3, 4)
        self.from_s(("slice", S, 9, None))
        self.from_s(("first", S, ("b",)), 0, 1, 4)
        self.from_s(("first", S, ("b", "a")), 0, 1, 2, 4)
        self.from_s(("running", S, "n", "sum", "a", ("b",)), 0, 1, 2, 3, 4)
        self.from_s(("melt", ("rename", S, "b", "c"), ("a",), ("c",), "l", "v"), 0, 1, 2, 3, 4)
        self.from_s(("melt", ("with", ("slice", S, 1, 2), "c", A), (), ("a", "c"), "l", "v"), 1, 1, 2, 2)

    def test_stack(self):
        renamed = ("rename", ("rename", ("pick", T, ("c", "k")), "c", "a"), "k", "b")
        self.comes_from(("stack", S, renamed), *[of("s", n) for n in range(5)], *[of("t", n) for n in range(4)])
        self.from_s(("stack", ("slice", S, 3, 1), S), 3, 0, 1, 2, 3, 4)

    def test_group(self):
        self.comes_from(("group", S, ("b",), (("n", "first", "a"),)), of("s", 0, 2, 3), of("s", 1), of("s", 4))
        self.comes_from(("group", ("sort", S, (("a", False),)), ("a",), ()), of("s", 4), of("s", 0, 3), of("s", 2), of("s", 1))
        self.comes_from(("group", ("group", S, ("a", "b"), ()), ("b",), ()), of("s", 0, 2, 3), of("s", 1), of("s", 4))
        self.comes_from(("group", ("where", S, ("value", "bool", False)), ("b",), ()))

    def test_join(self):
        both = [(("s", m), ("t", n)) for m in (0, 2, 3) for n in (0, 2)]
        self.comes_from(join("inner"), *both)
        self.comes_from(join("left"), *both[:2], of("s", 1), *both[2:], of("s", 4))
        self.comes_from(join("semi"), *both[::2])
        self.from_s(join("anti"), 1, 4)
        self.comes_from(join("semi", q=("sort", T, (("c", False),))), *both[1::2])
        self.comes_from(join("inner", q=("slice", T, 3, None)))
        self.comes_from(join("semi", q=("group", T, ("k",), ())), *[(("s", n), ("t", 0), ("t", 2)) for n in (0, 2, 3)])

    def test_pairs_are_ascending_and_stand_once(self):
        over = join("inner", p=("rename", T, "k", "b"), q=("rename", S, "b", "k"))
        self.comes_from(over, *[(("s", m), ("t", n)) for n in (0, 2) for m in (0, 2, 3)])
        self.comes_from(("group", over, ("b",), ()), (*of("s", 0, 2, 3), *of("t", 0, 2)))
        self.comes_from(("group", over, ("c",), ()), (*of("s", 0, 2, 3), ("t", 0)), (*of("s", 0, 2, 3), ("t", 2)))
        self.comes_from(("group", join("left"), ("b",), ()), (*of("s", 0, 2, 3), *of("t", 0, 2)), of("s", 1), of("s", 4))

    def test_a_source_joined_with_itself(self):
        other = ("rename", S, "b", "c")
        same = ("join", S, other, (("a", "a"),), "inner")
        self.comes_from(same, of("s", 0), of("s", 0, 3), of("s", 2), of("s", 0, 3), of("s", 3), of("s", 4))
        self.comes_from(("join", S, other, (("a", "a"),), "semi"), of("s", 0), of("s", 2), of("s", 0, 3), of("s", 4))
        self.comes_from(("group", same, ("b",), ()), of("s", 0, 2, 3), of("s", 4))
        many = Frame((("a", "int"),), tuple((number % 2,) for number in range(12)))
        found = origins(("group", ("join", S, S, (("a", "a"),), "inner"), ("a",), ()), House(s=many))
        self.assertEqual(found, (of("s", *range(0, 12, 2)), of("s", *range(1, 12, 2))))

    def test_sources_in_their_order_and_not_as_texts_with_indexes(self):
        frame = Frame((("a", "int"),), tuple((0,) for _ in range(11)))
        plan = ("group", ("stack", ("scan", "ab"), ("stack", ("scan", "a"), ("scan", "aa"))), ("a",), ())
        expected = (*of("a", *range(11)), *of("aa", *range(11)), *of("ab", *range(11)))
        self.assertEqual(origins(plan, House(a=frame, aa=frame, ab=frame)), (expected,))

    def test_random_plans(self):
        narrowable = 0
        for seed in range(500):
            plan, tables = Maker(seed).case()
            house = House(**{name: Frame(*table) for name, table in tables.items()})
            dicts = {name: (table[0], [dict(zip([column[0] for column in table[0]], row)) for row in table[1]])
                     for name, table in tables.items()}
            found = origins(plan, house)
            rows = run(plan, house).rows
            expected = tracing.origins_of(plan, dicts)
            self.assertEqual(found, tuple(tuple(sorted(origin)) for _, origin in expected), plan)
            self.assertEqual(repr([list(row.values()) for row, _ in expected]), repr([list(row) for row in rows]))
            self.assertEqual(origins(plan, house), found)
            if tracing.is_narrowable(plan):
                narrowable += 1
                for row, origin in zip(rows, found):
                    self.assertIn(row, run(plan, narrowed(house, origin)).rows, plan)
        self.assertGreater(narrowable, 100)

    def test_arguments_by_name(self):
        self.assertEqual(origins(house=HOUSE, plan=("slice", S, 0, 1)), (of("s", 0),))
        self.assertEqual(origins(("slice", S, 0, 0), house=HOUSE), ())

    def test_errors(self):
        for value in ANY_VALUES:
            self.refuses(InvalidPlan, {"path": ()}, origins, value, None)
            self.keeps(NotAHouse, "value", value, lambda house: origins(("scan", "zz"), house))
        self.refuses(InvalidPlan, {"path": (0,)}, origins, ("first", ("scan", ""), ("a",)), HOUSE)
        self.refuses(UnknownSource, {"name": "zz"}, origins, ("stack", S, ("scan", "zz")), HOUSE)
        self.refuses(UnknownColumn, {"name": "zz"}, origins, ("slice", ("pick", S, ("a", "zz")), 0, 0), HOUSE)


class NarrowablePlansTest(unittest.TestCase):
    def comes_out_again(self, plan, house):
        """Asks that a plan is narrowable, and that each row comes out again."""
        self.assertTrue(tracing.is_narrowable(plan))
        found = run(plan, house).rows
        self.assertGreater(len(found), 0)
        for row, origin in zip(found, origins(plan, house)):
            self.assertIn(row, run(plan, narrowed(house, origin)).rows)

    def test_one_group_or_first_above_a_join_or_a_melt(self):
        for plan in (("group", join("inner"), ("b",), (("n", "sum", "a"), ("m", "count", "c"))),
                     ("first", ("sort", join("inner"), (("c", False),)), ("b",)),
                     join("inner", q=("group", T, ("k",), (("n", "max", "c"),))),
                     ("group", join("semi", p=("first", S, ("b",)), q=("first", T, ("k",))), ("a",), ()),
                     ("group", ("melt", ("with", S, "c", A), ("b",), ("a", "c"), "l", "v"), ("l",), (("n", "last", "v"),)),
                     ("stack", ("group", S, ("b",), ()), ("pick", ("group", ("rename", T, "k", "b"), ("b",), ()), ("b",)))):
            self.comes_out_again(plan, HOUSE)


class NarrowedTest(ErrorCase):
    def left(self, origin, s, t):
        """Asks which rows are left."""
        found = narrowed(HOUSE, origin)
        self.assertIs(type(found), House)
        self.assertEqual(found.schemas, HOUSE.schemas)
        self.assertEqual([found["s"].rows, found["t"].rows],
                         [tuple(HOUSE["s"][index] for index in s), tuple(HOUSE["t"][index] for index in t)])

    def test_rows(self):
        rows = [HOUSE["s"].rows, HOUSE["t"].rows]
        self.left((), (), ())
        self.left(of("s", 0), (0,), ())
        self.left(of("t", 3), (), (3,))
        self.left((*of("s", 1, 4), *of("t", 0, 2)), (1, 4), (0, 2))
        self.left((*of("s", *range(5)), *of("t", *range(4))), range(5), range(4))
        self.assertEqual([HOUSE["s"].rows, HOUSE["t"].rows], rows)

    def test_all_rows_are_left(self):
        self.assertEqual(narrowed(HOUSE, (*of("s", *range(5)), *of("t", *range(4)))), HOUSE)
        self.assertEqual(narrowed(House(), ()), House())

    def test_equal_rows_are_told_apart(self):
        frame = Frame((("a", "int"),), ((1,), (1,), (1,)))
        self.assertEqual(narrowed(House(s=frame), of("s", 1))["s"].rows, ((1,),))
        self.assertEqual(narrowed(House(s=frame), of("s", 0, 2))["s"].rows, ((1,), (1,)))

    def test_sources_whose_names_begin_alike(self):
        frame = Frame((("a", "int"),), tuple((number,) for number in range(12)))
        found = narrowed(House(s=frame, ss=frame, sss=frame), (("s", 1), ("ss", 11)))
        self.assertEqual([found[name].rows for name in ("s", "ss", "sss")], [((1,),), ((11,),), ()])

    def test_arguments_by_name(self):
        self.assertEqual(narrowed(origin=(), house=HOUSE), narrowed(HOUSE, ()))

    def test_errors(self):
        for value in ANY_VALUES:
            self.keeps(NotAHouse, "value", value, lambda house: narrowed(house, ()))


if __name__ == "__main__":
    unittest.main()
