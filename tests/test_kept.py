"""Tests of labelframes.kept."""

import itertools
import random
import unittest

from labelframes.errors import (Busy, InvalidAction, InvalidNumber, InvalidPlan, InvalidRow, NotAHouse, NothingToUndo, UnknownColumn,
                                UnknownSource, WrongKind)
from labelframes.frames import Frame, House
from labelframes.kept import Kept
from labelframes.running import run
from tests.cases import A, ANY_VALUES, S, T, TEN, ErrorCase, Odd
from tests.oracle import Maker

SCHEMA = (("a", "int"), ("b", "text"))
HOUSE = House(s=Frame(SCHEMA, ((1, "x"), (2, "y"), (3, "x"))), t=Frame((("c", "bool"),), ((True,),)))
SUMS = ("group", S, ("b",), (("n", "sum", "a"),))


def house_of(*rows):
    return House(s=Frame(SCHEMA, rows))


def state(kept):
    """Data, result and history of a Kept."""
    return kept.house, kept.frame, kept.history(), len(kept), kept.busy


def changed(rows, word, index, *new):
    """Rows behind a change."""
    rows = list(rows)
    if word == "insert":
        rows.insert(index, *new)
    elif word == "remove":
        rows.pop(index)
    else:
        rows[index] = new[0]
    return tuple(rows)


def replacements(old, new):
    """All (start, count, rows) that make the new rows of the old ones."""
    for start, count in itertools.product(range(len(old) + 1), repeat=2):
        rows = new[start:len(new) - (len(old) - start - count)]
        if start + count <= len(old) and old[:start] + rows + old[start + count:] == new:
            yield start, count, rows


def told(old, new):
    """The one of them with the greatest start, and then the least count."""
    return max(replacements(old, new), key=lambda found: (found[0], -found[1]))


class ExampleTest(unittest.TestCase):
    def test_example(self):
        house = House(s=Frame((("a", "int"), ("b", "text")), ((1, "x"), (2, "y"), (3, "x"))))
        kept = Kept(("group", ("scan", "s"), ("b",), (("n", "sum", "a"),)), house)
        changes = [kept.insert_row("s", 0, (5, "y")), kept.remove_row("s", 3), kept.replace_row("s", 1, (1, "x"))]
        self.assertEqual([changes, kept.frame.rows, kept.undo(), len(kept)],
                         [[(0, 2, (('y', 7), ('x', 4))), (1, 1, (('x', 1),)), (2, 0, ())], (('y', 7), ('x', 1)),
                          ('replace', 's', 1, (1, 'x')), 2])


class KeptCase(ErrorCase):
    def is_right(self, kept, plan, house):
        """Asks that data and result are as they should be."""
        self.assertEqual(kept.house, house)
        self.assertIs(type(kept.house), House)
        self.assertEqual(kept.frame, run(plan, house))
        self.assertEqual(repr(kept.frame.rows), repr(run(plan, house).rows))
        self.assertIs(kept.busy, False)


class ChangesTest(KeptCase):
    def test_a_new_kept(self):
        kept = Kept(SUMS, HOUSE)
        self.is_right(kept, SUMS, HOUSE)
        self.assertEqual((len(kept), kept.history(), kept.attempts), (0, (), 0))
        self.assertIs(bool(kept), True)
        self.assertEqual(Kept(house=HOUSE, plan=SUMS), kept)

    def test_each_kind_of_change_at_each_index(self):
        rows = HOUSE["s"].rows
        for plan in (S, SUMS, ("sort", S, (("a", False),)), ("slice", S, 1, 1), ("running", S, "n", "sum", "a", ())):
            for word in ("insert", "remove", "replace"):
                for index in range(len(rows) + (word == "insert")):
                    change = (word, "s", index) + (((7, "y"),) if word != "remove" else ())
                    house = HOUSE.replaced(s=Frame(SCHEMA, changed(rows, *change[:1], *change[2:])))
                    one, other = Kept(plan, HOUSE), Kept(plan, HOUSE)
                    before = one.frame
                    found = one.do(change)
                    self.assertEqual(found, getattr(other, f"{word}_row")(*change[1:]))
                    self.assertEqual(found, told(before.rows, run(plan, house).rows))
                    for kept in (one, other):
                        self.is_right(kept, plan, house)
                        self.assertEqual((kept.history(), len(kept), kept.attempts), ((change,), 1, 0))
                    self.assertEqual(before, run(plan, HOUSE))
                    self.assertEqual(HOUSE["s"].rows, rows)

    def test_what_a_change_returns(self):
        twice = house_of((1, "x"), (1, "x"), (1, "x"))
        self.assertEqual(Kept(S, twice).insert_row("s", 0, (1, "x")), (3, 0, ((1, "x"),)))
        self.assertEqual(Kept(S, twice).insert_row("s", 3, (1, "x")), (3, 0, ((1, "x"),)))
        self.assertEqual(Kept(S, twice).remove_row("s", 0), (2, 1, ()))
        self.assertEqual(Kept(S, twice).replace_row("s", 1, (1, "x")), (3, 0, ()))
        self.assertEqual(Kept(S, twice).replace_row("s", 1, (2, "x")), (1, 1, ((2, "x"),)))
        mixed = house_of((1, "x"), (2, "x"), (1, "x"))
        self.assertEqual(Kept(S, mixed).insert_row("s", 1, (1, "x")), (1, 0, ((1, "x"),)))
        self.assertEqual(Kept(S, mixed).insert_row("s", 1, (2, "x")), (2, 0, ((2, "x"),)))
        self.assertEqual(Kept(S, mixed).remove_row("s", 0), (0, 1, ()))
        ordered = ("sort", S, (("a", True),))
        self.assertEqual(Kept(ordered, mixed).replace_row("s", 0, (3, "x")), (1, 2, ((2, "x"), (3, "x"))))
        self.assertEqual(Kept(ordered, mixed).insert_row("s", 0, (None, "x")), (3, 0, ((None, "x"),)))
        self.assertEqual(Kept(S, house_of()).insert_row("s", 0, (1, "x")), (0, 0, ((1, "x"),)))
        self.assertEqual(Kept(S, house_of((1, "x"))).remove_row("s", 0), (0, 1, ()))

    def test_changes_that_change_nothing_of_the_result(self):
        plan = ("where", S, ("lt", A, ("value", "int", 3)))
        for change in (("insert", "s", 0, (5, "x")), ("remove", "s", 2), ("replace", "s", 2, (None, None)),
                       ("replace", "s", 0, (1, "x")), ("insert", "t", 0, (None,)), ("remove", "t", 0), ("replace", "t", 0, (False,))):
            kept = Kept(plan, HOUSE)
            self.assertEqual(kept.do(change), (2, 0, ()))
            self.assertEqual(kept.history(), (change,))
            self.is_right(kept, plan, kept.house)
        self.assertEqual(kept.house["t"].rows, ((False,),))
        self.assertEqual(Kept(("slice", S, 0, 0), HOUSE).insert_row("s", 0, (5, "x")), (0, 0, ()))

    def test_sources_that_are_scanned_twice(self):
        plan = ("join", S, ("rename", S, "a", "z"), (("b", "b"),), "inner")
        kept = Kept(plan, HOUSE)
        kept.insert_row("s", 1, (4, "y"))
        kept.remove_row("s", 0)
        self.is_right(kept, plan, House(s=Frame(SCHEMA, ((4, "y"), (2, "y"), (3, "x"))), t=HOUSE["t"]))

    def test_random_changes(self):
        for seed in range(150):
            maker = Maker(seed)
            plan, tables = maker.case()
            house = House(**{name: Frame(*table) for name, table in tables.items()})
            kept = Kept(plan, house)
            past = [(house, kept.frame, ())]
            for _ in range(12):
                if len(past) > 1 and maker.random.random() < 0.25:
                    self.assertEqual(kept.undo(), kept_change(past))
                    past.pop()
                else:
                    change = random_change(maker, kept.house)
                    before = kept.frame
                    found = kept.do(change)
                    data = changed(kept_rows(past, change), change[0], *change[2:])
                    now = past[-1][0].replaced(**{change[1]: Frame(tables[change[1]][0], data)})
                    self.assertEqual(found, told(before.rows, run(plan, now).rows))
                    past.append((now, run(plan, now), (*past[-1][2], change)))
                self.is_right(kept, plan, past[-1][0])
                self.assertEqual(state(kept), (*past[-1], len(past) - 1, False))


def kept_change(past):
    """The last change of a past."""
    return past[-1][2][-1]


def kept_rows(past, change):
    """The rows of the source of a change before it."""
    return past[-1][0][change[1]].rows


def random_change(maker, house):
    """A change that can be made."""
    source = maker.random.choice(house.names)
    many = len(house[source])
    word = maker.random.choice(("insert", "remove", "replace")) if many else "insert"
    index = maker.random.randrange(many + (word == "insert"))
    row = tuple(maker.value(kind) for _, kind in house[source].schema)
    return (word, source, index) + ((row,) if word != "remove" else ())


class UndoTest(KeptCase):
    def test_undo(self):
        for change in (("insert", "s", 0, (7, "y")), ("insert", "s", 3, (7, "y")), ("remove", "s", 0), ("remove", "s", 2),
                       ("replace", "s", 1, (None, None)), ("replace", "s", 1, (2, "y")), ("insert", "t", 1, (None,)),
                       ("remove", "t", 0)):
            kept = Kept(SUMS, HOUSE)
            kept.do(change)
            self.assertEqual(kept.undo(), change)
            self.is_right(kept, SUMS, HOUSE)
            self.assertEqual((kept.history(), len(kept), bool(kept)), ((), 0, True))
            self.refuses(NothingToUndo, {}, kept.undo)

    def test_in_any_mixture(self):
        kept = Kept(S, HOUSE)
        kept.insert_row("s", 0, (7, "y"))
        kept.do_all((("remove", "s", 1), ("remove", "s", 1)))
        self.assertEqual(kept.undo(), ("remove", "s", 1))
        kept.replace_row("s", 1, (9, None))
        self.assertEqual(kept.history(), (("insert", "s", 0, (7, "y")), ("remove", "s", 1), ("replace", "s", 1, (9, None))))
        self.assertEqual([kept.undo(), kept.undo()], [("replace", "s", 1, (9, None)), ("remove", "s", 1)])
        self.assertEqual(kept.frame.rows, ((7, "y"),) + HOUSE["s"].rows)
        self.assertEqual([kept.undo(), len(kept)], [("insert", "s", 0, (7, "y")), 0])
        self.is_right(kept, S, HOUSE)
        for _ in range(2):
            self.refuses(NothingToUndo, {}, kept.undo)
            self.is_right(kept, S, HOUSE)


class EqualityTest(KeptCase):
    def test_equality(self):
        kept = Kept(SUMS, HOUSE)
        other = Kept(SUMS, HOUSE)
        self.assertTrue(kept == other and not kept != other)
        other.insert_row("s", 0, (7, "y"))
        self.assertTrue(kept != other and not kept == other)
        other.remove_row("s", 0)
        self.assertTrue(kept == other)
        self.assertFalse(kept == Kept(S, HOUSE))
        self.assertFalse(kept == Kept(("slice", SUMS, 0, None), HOUSE))
        self.assertFalse(kept == Kept(SUMS, House(s=HOUSE["s"])))
        for value in ANY_VALUES + (HOUSE, kept.frame, SUMS):
            self.assertFalse(kept == value)


class DoAllTest(KeptCase):
    CHANGES = (("insert", "s", 3, (4, "y")), ("remove", "s", 0), ("replace", "s", 0, (2, "z")), ("insert", "t", 0, (None,)))

    def test_all(self):
        kept, other = Kept(SUMS, HOUSE), Kept(SUMS, HOUSE)
        found = kept.do_all(self.CHANGES)
        self.assertEqual(found, tuple([other.do(change) for change in self.CHANGES]))
        self.assertEqual(state(kept), state(other))
        self.is_right(kept, SUMS, other.house)
        self.assertEqual((kept.history(), kept.attempts, other.attempts), (self.CHANGES, 1, 0))
        self.assertEqual(kept.do_all(changes=(), watch=None), ())
        self.assertEqual((kept.attempts, state(kept)), (2, state(other)))

    def test_none(self):
        for wrong, kind, attributes in ((("remove", "s", 9), InvalidNumber, {"number": 9}),
                                        (("insert", "z", 0, (1, "x")), UnknownSource, {"name": "z"}),
                                        (("replace", "s", 0, (1, 1)), InvalidRow, {"index": 1}),
                                        (("insert", "t", 0, 1), InvalidRow, {"index": None})):
            for at in range(len(self.CHANGES) + 1):
                kept = Kept(SUMS, HOUSE)
                kept.insert_row("s", 0, (None, None))
                before = state(kept)
                self.refuses(kind, attributes, kept.do_all, self.CHANGES[:at] + (wrong,) + self.CHANGES[at:])
                self.assertEqual(state(kept), before)
                self.is_right(kept, SUMS, before[0])
                self.assertEqual((kept.attempts, kept.undo()), (1, ("insert", "s", 0, (None, None))))
                self.assertEqual(len(kept.do_all(self.CHANGES)), 4)

    def test_the_first_change_that_fails(self):
        kept = Kept(S, HOUSE)
        self.refuses(InvalidNumber, {"number": 3}, kept.do_all, (("remove", "s", 3), ("remove", "z", 3)))
        self.refuses(UnknownSource, {"name": "z"}, kept.do_all, (("remove", "z", 3), ("remove", "s", 3)))
        # Whether an index is right is seen from the data behind the changes before.
        self.refuses(InvalidNumber, {"number": 2}, kept.do_all, (("remove", "s", 2), ("remove", "s", 2)))
        self.assertEqual(kept.do_all((("insert", "s", 3, (1, "x")), ("remove", "s", 3))), ((3, 0, ((1, "x"),)), (3, 1, ())))
        self.assertEqual(kept.attempts, 4)

    def test_invalid_actions(self):
        seen = []
        for value in ANY_VALUES:
            if not isinstance(value, tuple):
                kept = Kept(S, HOUSE)
                self.refuses(InvalidAction, {"index": None}, kept.do_all, value, watch=lambda *args: seen.append(args))
        self.refuses(InvalidAction, {"index": None}, kept.do_all, [("remove", "s", 0)])
        before = state(kept)
        for wrong in ANY_VALUES + WRONG_CHANGES:
            for first, index in (((), 0), ((("remove", "s", 0),), 1), ((("remove", "z", None), ("insert", 1, 2, 3)), 2)):
                self.refuses(InvalidAction, {"index": index}, kept.do_all, (*first, wrong, wrong),
                             watch=lambda *args: seen.append(args))
                self.assertEqual((state(kept), kept.attempts), (before, 0))
        self.assertEqual(seen, [])

    def test_attempts(self):
        kept = Kept(S, HOUSE)
        seen = []
        for count in range(1, 4):
            kept.do_all((("remove", "s", 0),), watch=lambda given, index: seen.append(given.attempts))
            self.assertEqual((kept.attempts, seen), (count, list(range(1, count + 1))))
        self.raised(InvalidNumber, kept.do_all, (("remove", "s", 0),))
        self.assertEqual(kept.attempts, 4)
        self.raised(InvalidAction, kept.do_all, None)
        kept.insert_row("s", 0, (1, "x"))
        kept.undo()
        self.assertEqual(kept.attempts, 4)


class WatchTest(KeptCase):
    CHANGES = DoAllTest.CHANGES

    def test_watch_sees_the_state_behind_each_change(self):
        kept, other = Kept(SUMS, HOUSE), Kept(SUMS, HOUSE)
        seen, expected = [], []
        kept.do_all(self.CHANGES, watch=lambda given, index: seen.append((given is kept, index, *state(given))))
        for index, change in enumerate(self.CHANGES):
            other.do(change)
            expected.append((True, index, *state(other)[:4], True))
        self.assertEqual(seen, expected)
        self.assertIs(kept.busy, False)

    def test_watch_is_called_for_the_changes_before_one_that_fails(self):
        for at in range(4):
            kept = Kept(SUMS, HOUSE)
            seen = []
            changes = self.CHANGES[:at] + (("remove", "s", 99),) + self.CHANGES[at:]
            self.raised(InvalidNumber, kept.do_all, changes, watch=lambda given, index: seen.append((index, len(given), given.busy)))
            self.assertEqual(seen, [(index, index + 1, True) for index in range(at)])
            self.is_right(kept, SUMS, HOUSE)
            self.assertEqual((kept.history(), kept.busy), ((), False))

    def test_errors_of_watch(self):
        for at in range(4):
            for error in (KeyError("mine"), Busy(), KeyboardInterrupt()):
                kept = Kept(SUMS, HOUSE)
                kept.replace_row("s", 1, (8, "y"))
                before = state(kept)

                def watch(given, index):
                    if index == at:
                        raise error
                with self.assertRaises(type(error)) as caught:
                    kept.do_all(self.CHANGES, watch=watch)
                self.assertIs(caught.exception, error)
                self.assertEqual((state(kept), kept.attempts), (before, 1))
                self.is_right(kept, SUMS, before[0])
                kept.insert_row("s", 0, (1, "x"))
                self.assertEqual([kept.undo(), kept.undo()], [("insert", "s", 0, (1, "x")), ("replace", "s", 1, (8, "y"))])

    def test_busy(self):
        calls = (("do", ("remove", "s", 0)), ("do", None), ("insert_row", "s", 0, (1, "x")), ("insert_row", None, None, None),
                 ("remove_row", "s", 0), ("replace_row", "s", 0, (1, "x")), ("do_all", ()), ("do_all", None), ("undo",))
        kept = Kept(SUMS, HOUSE)
        seen = []

        def watch(given, index):
            for name, *args in calls:
                before = state(given)
                self.refuses(Busy, {}, getattr(given, name), *args)
                self.assertEqual(state(given), before)
                self.assertIs(given.busy, True)
                seen.append(name)
        kept.do_all(self.CHANGES, watch=watch)
        self.assertEqual((len(seen), kept.attempts, len(kept), kept.busy), (4 * len(calls), 1, 4, False))
        self.raised(Busy, kept.do_all, (("insert", "s", 0, (1, "x")),), watch=lambda given, index: given.undo())
        self.assertEqual((len(kept), kept.busy), (4, False))

    def test_another_object_is_not_busy(self):
        kept, other = Kept(SUMS, HOUSE), Kept(SUMS, HOUSE)
        kept.do_all(self.CHANGES[:2], watch=lambda given, index: other.do(self.CHANGES[index]))
        self.assertEqual(state(kept), state(other))
        seen = []
        kept.do_all((("remove", "s", 0),), watch=lambda given, index: seen.append((kept.busy, other.busy, other.do_all(()))))
        self.assertEqual(seen, [(True, False, ())])


WRONG_CHANGES = ((), ("insert",), ("insert", "s", 0), ("insert", "s", 0, (1, "x"), 1), ("remove", "s"), ("remove", "s", 0, (1, "x")),
                 ("replace", "s", 0), ("replace", "s", 0, (1, "x"), None), ("Insert", "s", 0, (1, "x")), ("", "s", 0),
                 ("insert ", "s", 0, (1, "x")), (None, "s", 0), (("remove",), "s", 0), (Odd(), "s", 0), (["remove"], "s", 0),
                 ["remove", "s", 0], "remove", ("add", (1, "x")), ("undo",))


class ErrorsTest(KeptCase):
    def refused(self, kind, attributes, *change):
        """Asks that a change is refused, by `do` and by its method, and that nothing changes."""
        kept = Kept(SUMS, HOUSE)
        kept.remove_row("s", 1)
        before = state(kept)
        self.refuses(kind, attributes, kept.do, change)
        self.refuses(kind, attributes, getattr(kept, f"{change[0]}_row"), *change[1:])
        self.assertEqual((state(kept), kept.attempts), (before, 0))
        self.is_right(kept, SUMS, before[0])

    def test_new_kepts(self):
        for value in ANY_VALUES:
            self.refuses(InvalidPlan, {"path": ()}, Kept, value, None)
            self.keeps(NotAHouse, "value", value, lambda house: Kept(("scan", "zz"), house))
        self.refuses(InvalidPlan, {"path": (0,)}, Kept, ("pick", ("scan", 1), ("a",)), HOUSE)
        self.refuses(UnknownSource, {"name": "zz"}, Kept, ("stack", S, ("scan", "zz")), HOUSE)
        self.refuses(UnknownColumn, {"name": "zz"}, Kept, ("pick", ("slice", S, 0, 0), ("zz",)), HOUSE)
        self.refuses(WrongKind, {"word": "where"}, Kept, ("where", S, TEN), HOUSE)

    def test_invalid_actions(self):
        kept = Kept(SUMS, HOUSE)
        for wrong in ANY_VALUES + WRONG_CHANGES:
            self.refuses(InvalidAction, {"index": None}, kept.do, wrong)
        self.is_right(kept, SUMS, HOUSE)

    def test_unknown_sources(self):
        for source in ANY_VALUES + ("z", "S", "ss", ""):
            self.refused(UnknownSource, {"name": source}, "insert", source, None, None)
            self.refused(UnknownSource, {"name": source}, "remove", source, 0)
            self.refused(UnknownSource, {"name": source}, "replace", source, -1, (1,))

    def test_invalid_numbers(self):
        # Two rows are left in s.
        for index in [value for value in ANY_VALUES if value is True or not isinstance(value, int)] + [False, -1, 10 ** 29, "0"]:
            self.refused(InvalidNumber, {"number": index}, "insert", "s", index, None)
            self.refused(InvalidNumber, {"number": index}, "remove", "s", index)
            self.refused(InvalidNumber, {"number": index}, "replace", "s", index, None)
        self.refused(InvalidNumber, {"number": 3}, "insert", "s", 3, None)
        self.refused(InvalidNumber, {"number": 2}, "remove", "s", 2)
        self.refused(InvalidNumber, {"number": 2}, "replace", "s", 2, None)
        kept = Kept(S, house_of())
        self.refuses(InvalidNumber, {"number": 0}, kept.remove_row, "s", 0)
        self.refuses(InvalidNumber, {"number": 0}, kept.replace_row, "s", 0, (1, "x"))

    def test_invalid_rows(self):
        for word in ("insert", "replace"):
            for row in ANY_VALUES + ((1,), (1, "x", 1), [1, "x"], "ab"):
                if not isinstance(row, tuple) or len(row) != 2:
                    self.refused(InvalidRow, {"index": None}, word, "s", 0, row)
            for row, index in (((True, 1), 0), (("1", "x"), 0), ((1, 1), 1), ((None, "\n"), 1), ((Odd(), "x"), 0), ((1, Odd()), 1)):
                self.refused(InvalidRow, {"index": index}, word, "s", 1, row)
            self.refused(InvalidRow, {"index": 0}, word, "t", 0, (1,))

    def test_arguments_by_name(self):
        kept = Kept(S, HOUSE)
        kept.do(change=("remove", "s", 0))
        kept.insert_row(row=(1, "x"), index=0, source="s")
        kept.replace_row(index=0, source="s", row=(2, "x"))
        kept.remove_row(index=0, source="s")
        self.assertEqual(len(kept), 4)
        self.assertRaises(TypeError, kept.do_all, (), None)

    def test_properties_are_not_assigned(self):
        kept = Kept(S, HOUSE)
        for name in ("house", "frame", "busy", "attempts"):
            self.assertRaises(AttributeError, setattr, kept, name, None)


class LongHistoryTest(KeptCase):
    def test_many_changes(self):
        chance = random.Random(5)
        plan = ("join", ("first", S, ("a",)), ("group", T, ("k",), (("n", "count", "k"),)), (("a", "k"),), "left")
        house = House(s=Frame(SCHEMA), t=Frame((("k", "int"),)))
        kept = Kept(plan, house)
        for number in range(120):
            source = chance.choice("st")
            row = (chance.randint(0, 3), "x") if source == "s" else (chance.randint(0, 3),)
            kept.insert_row(source, chance.randint(0, len(kept.house[source])), row)
        self.assertEqual(len(kept), 120)
        self.is_right(kept, plan, kept.house)
        history = kept.history()
        self.assertEqual([kept.undo() for _ in range(120)], list(reversed(history)))
        self.is_right(kept, plan, house)
        kept.do_all(history)
        self.assertEqual(kept.history(), history)


if __name__ == "__main__":
    unittest.main()
