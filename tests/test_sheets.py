"""Tests of point 21 and of labelframes.sheets."""

import itertools
import random
import unittest

from labelframes.errors import Closed, InvalidNumber, InvalidRow, InvalidValue, NotAFrame, NotASheet, TooMany, UnknownColumn
from labelframes.frames import Frame
from labelframes.sheets import BoundedSheet, NotedBoundedSheet, NotedSheet, Sheet, used
from tests.cases import ANY_VALUES, ErrorCase, Odd

SCHEMA = (("a", "int"), ("b", "text"))
CLASSES = (Sheet, NotedSheet, BoundedSheet, NotedBoundedSheet)


def frame(many):
    """A frame with so many rows."""
    return Frame(SCHEMA, tuple((number, "xyz"[number % 3]) for number in range(many)))


def rows_of(sheet):
    return sheet.to_frame().rows


class Model:
    """A sheet as point 21 tells it: rows, and for each column the names of the blocks that it holds.

    `family` is the list of all sheets that come from one, and the names of their blocks are never used twice.
    """

    names = itertools.count()

    def __init__(self, rows, block, family, blocks):
        self.rows = list(rows)
        self.block = block
        self.blocks = blocks
        self.copies = 0
        self.is_open = True
        self.family = family
        family.append(self)

    def twin(self):
        return Model(self.rows, self.block, self.family, [list(column) for column in self.blocks])

    def write(self, place, at):
        if at == len(self.blocks[place]):
            self.blocks[place].append(next(self.names))
            return
        held = self.blocks[place][at]
        if any(other.is_open and other is not self and held in other.blocks[place] for other in self.family):
            self.blocks[place][at] = next(self.names)
            self.copies += 1

    def put(self, index, place, value):
        self.write(place, index // self.block)
        row = list(self.rows[index])
        row[place] = value
        self.rows[index] = tuple(row)

    def add_row(self, row):
        for place in range(len(row)):
            self.write(place, len(self.rows) // self.block)
        self.rows.append(row)

    def shared(self, other):
        if not self.is_open or not other.is_open:
            return 0
        return sum(held in theirs for mine, theirs in zip(self.blocks, other.blocks) for held in mine)

    @classmethod
    def of(cls, rows, block):
        return cls(rows, block, [], [[next(cls.names) for _ in range(0, len(rows), block)] for _ in SCHEMA])


class ExampleTest(unittest.TestCase):
    def test_example(self):
        sheet = Sheet(Frame((("a", "int"), ("b", "text")), ((1, "x"), (2, "y"), (3, "z"))), block=2)
        other = sheet.twin()
        before = [sheet.shared(other), other.put(0, "a", 7), sheet.shared(other), other.copies, other.add_row((4, "w")), other.copies]
        found = [before, sheet.put(1, "a", 5), sheet.copies, sheet.to_frame().rows, other.to_frame().rows, sheet.shared(other)]
        self.assertEqual(found, [[4, None, 3, 1, 3, 3], None, 0, ((1, 'x'), (5, 'y'), (3, 'z')),
                                 ((7, 'x'), (2, 'y'), (3, 'z'), (4, 'w')), 1])


class SheetTest(ErrorCase):
    def test_a_new_sheet(self):
        for kind in CLASSES:
            for many in (0, 1, 3, 4, 5, 400):
                for block in (1, 2, 4, 100):
                    sheet = kind(frame(many), block=block)
                    self.assertEqual((sheet.schema, sheet.copies, sheet.is_open, len(sheet)), (SCHEMA, 0, True, many))
                    self.assertIs(sheet.is_open, True)
                    self.assertEqual(sheet.to_frame(), frame(many))
                    self.assertIs(type(sheet.to_frame()), Frame)
                    self.assertEqual(sheet.shared(sheet), 2 * -(-many // block))
                    self.assertEqual(sheet.shared(kind(frame(many), block=block)), 0)
                    self.assertIs(bool(sheet), many > 0)

    def test_blocks_of_four_if_nothing_is_said(self):
        for kind in CLASSES:
            for many, blocks in ((0, 0), (1, 2), (4, 2), (5, 4), (8, 4), (9, 6)):
                self.assertEqual(kind(frame(many)).shared(Sheet(frame(many))), 0)
                sheet = kind(frame(many))
                self.assertEqual(sheet.shared(sheet), blocks)

    def test_most_block(self):
        self.assertEqual([kind.MOST_BLOCK for kind in CLASSES], [100] * 4)
        self.assertEqual(Sheet(frame(0)).MOST_BLOCK, 100)

    def test_put(self):
        sheet = Sheet(frame(3), block=2)
        self.assertIs(sheet.put(0, "a", 9), None)
        self.assertIs(sheet.put(2, "b", None), None)
        self.assertIs(sheet.put(value=-1, name="a", index=1), None)
        self.assertEqual(rows_of(sheet), ((9, "x"), (-1, "y"), (2, None)))
        self.assertEqual((len(sheet), sheet.copies), (3, 0))

    def test_add_row(self):
        for block in (1, 2, 3, 100):
            sheet = Sheet(frame(0), block=block)
            rows = [(7, "x"), (None, None), (8, ""), (8, ""), (0, "~")]
            for index, row in enumerate(rows):
                self.assertEqual(sheet.add_row(row), index)
                self.assertEqual(rows_of(sheet), tuple(rows[:index + 1]))
                self.assertEqual((len(sheet), sheet.shared(sheet)), (index + 1, 2 * -(-(index + 1) // block)))
            self.assertEqual(sheet.copies, 0)
            self.assertEqual(sheet.add_row(row=(1, "1")), 5)

    def test_the_frame_stays(self):
        given = frame(3)
        sheet = Sheet(given)
        sheet.put(0, "a", 100)
        told = sheet.to_frame()
        sheet.put(1, "a", 100)
        sheet.add_row((1, "1"))
        self.assertEqual((given, told.column("a")), (frame(3), (100, 1, 2)))

    def test_equality(self):
        for kind in CLASSES:
            sheet, other = kind(frame(2)), kind(frame(2))
            self.assertTrue(sheet == sheet and not sheet != sheet)
            for value in (other, sheet.twin(), frame(2), 2, None):
                self.assertFalse(sheet == value)
                self.assertTrue(sheet != value)

    def test_close(self):
        sheet = Sheet(frame(3))
        self.assertIs(sheet.close(), None)
        self.assertIs(sheet.is_open, False)
        self.assertEqual((len(sheet), sheet.schema, sheet.copies, bool(sheet)), (3, SCHEMA, 0, True))
        self.assertEqual([sheet.shared(sheet), Sheet(frame(3)).shared(sheet)], [0, 0])
        empty = Sheet(frame(0))
        empty.close()
        self.assertIs(bool(empty), False)

    def test_properties_are_not_assigned(self):
        sheet = NotedBoundedSheet(frame(2))
        for name in ("schema", "copies", "is_open", "most"):
            before = getattr(sheet, name)
            self.assertRaises(AttributeError, setattr, sheet, name, 7)
            self.assertEqual(getattr(sheet, name), before)


class LengthTest(ErrorCase):
    def test_put_leaves_the_number_of_rows(self):
        for kind in CLASSES:
            for many in (1, 4, 5, 400):
                sheet = kind(frame(many))
                for index in (0, many - 1):
                    sheet.put(index, "a", None)
                    self.assertEqual((len(sheet), len(rows_of(sheet))), (many, many))

    def test_each_new_row_counts(self):
        for kind in CLASSES:
            for many in (0, 1, 3, 4):
                for block in (1, 2, 4, 100):
                    sheet = kind(frame(many), block=block)
                    for more in range(1, 10):
                        sheet.add_row((None, None))
                        self.assertEqual((len(sheet), len(rows_of(sheet)), bool(sheet)), (many + more, many + more, True))

    def test_twins_have_numbers_of_their_own(self):
        for kind in CLASSES:
            sheet = kind(frame(3), block=2)
            other = sheet.twin()
            self.assertEqual((len(sheet), len(other)), (3, 3))
            other.add_row((1, "x"))
            other.add_row((2, "x"))
            self.assertEqual((len(sheet), len(other)), (3, 5))
            third = other.twin()
            sheet.add_row((3, "x"))
            self.assertEqual((len(sheet), len(other), len(third)), (4, 5, 5))
            third.put(4, "a", 0)
            self.assertEqual((len(sheet), len(other), len(third)), (4, 5, 5))

    def test_closed_sheets_keep_it(self):
        for kind in CLASSES:
            for many in (0, 1, 3, 400):
                sheet = kind(frame(many))
                sheet.add_row((1, "x"))
                other = sheet.twin()
                sheet.close()
                other.add_row((2, "x"))
                self.assertEqual((len(sheet), len(other)), (many + 1, many + 2))
                with other:
                    other.add_row((3, "x"))
                self.assertEqual((len(sheet), len(other), bool(other)), (many + 1, many + 3, True))
            empty = kind(frame(0))
            empty.close()
            self.assertEqual((len(empty), bool(empty)), (0, False))

    def test_it_tells_which_rows_there_are(self):
        for kind in CLASSES:
            sheet = kind(frame(2), block=2)
            other = sheet.twin()
            other.add_row((1, "x"))
            self.refuses(InvalidNumber, {"number": 2}, sheet.put, 2, "a", 7)
            self.refuses(InvalidNumber, {"number": 3}, other.put, 3, "a", 7)
            other.put(2, "a", 7)
            self.assertEqual((len(sheet), rows_of(other)[2], len(other)), (2, (7, "x"), 3))
            self.refuses(InvalidRow, {"index": 0}, other.add_row, ("x", "x"))
            self.assertEqual((len(sheet), len(other)), (2, 3))


class TwinsTest(ErrorCase):
    def test_a_twin_is_open_and_of_the_same_class(self):
        for kind in CLASSES:
            sheet = kind(frame(5), block=2)
            sheet.twin()
            sheet.put(0, "a", 3)
            self.assertEqual(sheet.copies, 1)
            other = sheet.twin()
            self.assertIs(type(other), kind)
            self.assertEqual((other.copies, other.is_open, len(other), other.schema), (0, True, 5, SCHEMA))
            self.assertEqual(other.to_frame(), sheet.to_frame())
            self.assertEqual([sheet.shared(other), other.shared(sheet), sheet.copies], [6, 6, 1])
            self.assertEqual([other.add_row((0, "")), other.add_row((0, "")), other.shared(other)], [5, 6, 8])

    def test_the_first_write_copies_and_the_next_does_not(self):
        for first, second in ((0, 1), (1, 0)):
            pair = [Sheet(frame(4), block=2)]
            pair.append(pair[0].twin())
            writer, other = pair[first], pair[second]
            writer.put(0, "a", 50)
            self.assertEqual([writer.copies, other.copies, writer.shared(other)], [1, 0, 3])
            writer.put(1, "a", 51)
            other.put(0, "a", 52)
            other.put(1, "a", 53)
            self.assertEqual([writer.copies, other.copies, writer.shared(other)], [1, 0, 3])
            self.assertEqual([writer.to_frame().column("a"), other.to_frame().column("a")], [(50, 51, 2, 3), (52, 53, 2, 3)])

    def test_a_write_of_the_value_that_is_there_copies_too(self):
        sheet = Sheet(frame(4))
        other = sheet.twin()
        other.put(0, "a", 0)
        self.assertEqual([other.copies, sheet.shared(other), other.to_frame()], [1, 1, frame(4)])

    def test_each_block_is_copied_once(self):
        sheet = Sheet(frame(4), block=1)
        other = sheet.twin()
        for _ in range(3):
            for index in range(4):
                other.put(index, "b", "")
        self.assertEqual([other.copies, sheet.copies, sheet.shared(other)], [4, 0, 4])

    def test_blocks_that_several_sheets_hold(self):
        sheet = Sheet(frame(1))
        twins = [sheet.twin(), sheet.twin(), sheet.twin()]
        for number, twin in enumerate(twins):
            twin.put(0, "a", 10 + number)
            self.assertEqual(twin.copies, 1)
        sheet.put(0, "a", 20)
        self.assertEqual(sheet.copies, 0)
        self.assertEqual([each.to_frame().column("a") for each in (sheet, *twins)], [(20,), (10,), (11,), (12,)])

    def test_new_rows(self):
        for block, copies in ((1, 0), (2, 0), (3, 2), (4, 0), (100, 2)):
            sheet = Sheet(frame(4), block=block)
            other = sheet.twin()
            self.assertEqual(other.add_row((7, "x")), 4)
            self.assertEqual([other.copies, other.shared(sheet)], [copies, 2 * -(-4 // block) - copies])
            other.add_row((8, "x"))
            self.assertEqual(other.copies, copies)
            self.assertEqual([rows_of(sheet), rows_of(other)[4:]], [frame(4).rows, ((7, "x"), (8, "x"))])
            sheet.add_row((9, "x"))
            self.assertEqual([sheet.copies, rows_of(sheet)[4:], rows_of(other)[4:]], [0, ((9, "x"),), ((7, "x"), (8, "x"))])

    def test_new_rows_of_the_original(self):
        sheet = Sheet(frame(3), block=2)
        other = sheet.twin()
        sheet.add_row((7, "x"))
        self.assertEqual([sheet.copies, rows_of(other), len(other)], [2, frame(3).rows, 3])

    def test_nothing_is_copied_because_of_a_closed_sheet(self):
        sheet = Sheet(frame(4), block=2)
        one, two = sheet.twin(), sheet.twin()
        sheet.close()
        one.put(0, "a", 5)
        self.assertEqual(one.copies, 1)
        one.close()
        two.put(0, "a", 6)
        two.add_row((1, "1"))
        self.assertEqual([two.copies, two.shared(sheet), sheet.shared(two), two.shared(one)], [0, 0, 0, 0])
        self.assertEqual(rows_of(two)[0], (6, "x"))

    def test_a_twin_of_a_twin_whose_original_is_closed(self):
        sheet = Sheet(frame(4))
        one = sheet.twin()
        sheet.close()
        two = one.twin()
        two.put(3, "b", "")
        self.assertEqual([one.copies, two.copies, one.shared(two)], [0, 1, 1])

    def test_many_sheets_written_in_turns(self):
        for seed in range(60):
            chance = random.Random(seed)
            block = chance.choice((1, 2, 3, 4, 100))
            rows = frame(chance.randint(0, 6)).rows
            pairs = [(chance.choice(CLASSES)(Frame(SCHEMA, rows), block=block), Model.of(rows, block))]
            for _ in range(60):
                self.turn(chance, pairs)
                for sheet, model in pairs:
                    self.assertEqual((sheet.copies, sheet.is_open, len(sheet)), (model.copies, model.is_open, len(model.rows)))
                    if model.is_open:
                        self.assertEqual(rows_of(sheet), tuple(model.rows))
                    for other, theirs in pairs:
                        self.assertEqual(sheet.shared(other), model.shared(theirs))

    def turn(self, chance, pairs):
        """Does something with one of the sheets, and the same with its model."""
        sheet, model = chance.choice(pairs)
        what = chance.choice(("put", "put", "put", "add", "twin", "close"))
        if not model.is_open:
            self.raised(Closed, sheet.put, 0, "a", 1)
        elif what == "put" and model.rows:
            index, place = chance.randrange(len(model.rows)), chance.randrange(2)
            value = (chance.randint(0, 9), chance.choice("pqr"))[place]
            sheet.put(index, "ab"[place], value)
            model.put(index, place, value)
        elif what == "add":
            row = (chance.randint(0, 9), chance.choice("pqr"))
            self.assertEqual(sheet.add_row(row), len(model.rows))
            model.add_row(row)
        elif what == "twin" and len(pairs) < 6:
            pairs.append((sheet.twin(), model.twin()))
        elif what == "close" and chance.random() < 0.3:
            sheet.close()
            model.is_open = False


class SheetErrorsTest(ErrorCase):
    def test_new_sheets(self):
        for kind in CLASSES:
            for value in ANY_VALUES:
                self.keeps(NotAFrame, "value", value, lambda given: kind(given, block=None))
                if value is True or not isinstance(value, int) or not 1 <= value <= 100:
                    self.keeps(InvalidNumber, "number", value, lambda block: kind(frame(1), block=block))
            for value in (0, -1, 101, 10 ** 29, True, False, None, "4", (4,), Odd()):
                self.refuses(InvalidNumber, {"number": value}, kind, frame(1), block=value)
            self.assertRaises(TypeError, kind, frame(1), 2)
            self.assertEqual(kind(frame=frame(1), block=100).to_frame(), frame(1))

    def refused(self, kind, attributes, name, *args):
        """Asks that a method is refused, and that nothing is written and copied then."""
        for each in CLASSES:
            sheet = each(frame(3), block=2)
            other = sheet.twin()
            self.refuses(kind, attributes, getattr(other, name), *args)
            self.assertEqual([other.copies, sheet.shared(other), rows_of(other), len(other)], [0, 4, frame(3).rows, 3])
            if isinstance(other, NotedSheet):
                self.assertEqual(other.notes(), ())

    def test_put(self):
        for index in [value for value in ANY_VALUES if value is True or not isinstance(value, int)] + [-1, 3, 10 ** 29, False]:
            self.refused(InvalidNumber, {"number": index}, "put", index, "zz", "1")
        for name in ANY_VALUES + ("c", "A", "b "):
            if not isinstance(name, str) or name != "a":
                self.refused(UnknownColumn, {"name": name}, "put", 2, name, Odd())
        for value in ANY_VALUES + ("1", (1,)):
            if value is not None and (isinstance(value, bool) or not isinstance(value, int)):
                self.refused(InvalidValue, {"value": value}, "put", 0, "a", value)
            if value is not None and not isinstance(value, str):
                self.refused(InvalidValue, {"value": value}, "put", 0, "b", value)
        for value in ("\n", "a\tb", "\x7f", "\u00e9"):
            self.refused(InvalidValue, {"value": value}, "put", 0, "b", value)
        self.raised(InvalidNumber, Sheet(frame(0)).put, 0, "a", 1)
        truths = Sheet(Frame((("c", "bool"),), ((None,),)))
        for value in (0, 1, "yes"):
            self.refuses(InvalidValue, {"value": value}, truths.put, 0, "c", value)
        truths.put(0, "c", True)
        self.assertIs(truths.to_frame()[0][0], True)

    def test_add_row(self):
        for row in ANY_VALUES:
            if not isinstance(row, tuple) or len(row) != 2:
                self.refused(InvalidRow, {"index": None}, "add_row", row)
        for row in ((), (1,), (1, "x", 1), [1, "x"], "ab", None):
            self.refused(InvalidRow, {"index": None}, "add_row", row)
        for row, index in (((True, "x"), 0), (("1", 1), 0), ((1, 1), 1), ((None, "\n"), 1), ((Odd(), "x"), 0), ((1, Odd()), 1)):
            self.refused(InvalidRow, {"index": index}, "add_row", row)

    def test_shared(self):
        for value in ANY_VALUES + (frame(1), Sheet):
            self.keeps(NotASheet, "value", value, Sheet(frame(1)).shared)
            closed = Sheet(frame(1))
            closed.close()
            self.keeps(NotASheet, "value", value, closed.shared)
        self.assertEqual(Sheet(frame(1)).shared(other=NotedSheet(frame(1))), 0)

    def test_closed(self):
        for kind in CLASSES:
            sheet = kind(frame(3), block=2)
            other = sheet.twin()
            sheet.close()
            calls = [(sheet.put, (None, None, None)), (sheet.put, (0, "a", 1)), (sheet.add_row, (None,)), (sheet.add_row, ((1, "x"),)),
                     (sheet.to_frame, ()), (sheet.twin, ()), (sheet.close, ()), (sheet.__enter__, ())]
            if isinstance(sheet, BoundedSheet):
                calls += [(sheet.change_most, (-1,)), (sheet.change_most, (None,))]
            for call, args in calls:
                self.refuses(Closed, {}, call, *args)
            self.assertEqual([sheet.shared(other), sheet.copies, sheet.is_open, len(sheet)], [0, 0, False, 3])
            self.assertEqual(rows_of(other), frame(3).rows)


class WithTest(ErrorCase):
    def test_with(self):
        for kind in CLASSES:
            sheet = kind(frame(2))
            with sheet as held:
                self.assertIs(held, sheet)
                self.assertIs(sheet.is_open, True)
                sheet.put(0, "a", 8)
            self.assertIs(sheet.is_open, False)
            self.assertEqual(len(sheet), 2)

    def test_errors_are_raised_further(self):
        sheet = Sheet(frame(2))
        other = sheet.twin()
        error = KeyError("mine")
        with self.assertRaises(KeyError) as caught:
            with sheet:
                raise error
        self.assertIs(caught.exception, error)
        self.assertIs(sheet.is_open, False)
        other.put(0, "a", 1)
        self.assertEqual(other.copies, 0)
        with self.assertRaises(InvalidNumber):
            with other:
                other.put(9, "a", 1)
        self.assertIs(other.is_open, False)

    def test_closed_within(self):
        sheet = Sheet(frame(2))
        with sheet:
            sheet.close()
        self.assertIs(sheet.is_open, False)
        sheet = Sheet(frame(2))
        with self.assertRaises(KeyError):
            with sheet:
                sheet.close()
                raise KeyError("mine")
        sheet = Sheet(frame(2))
        with sheet:
            with sheet:
                pass
            self.assertIs(sheet.is_open, False)

    def test_closed_at_the_beginning(self):
        sheet = Sheet(frame(2))
        sheet.close()
        begun = []
        with self.assertRaises(Closed) as caught:
            with sheet:
                begun.append(1)
        self.assertIs(type(caught.exception), Closed)
        self.assertEqual(begun, [])

    def test_used(self):
        for kind in CLASSES:
            sheet = kind(frame(2))
            seen = []

            def action(given):
                seen.append((given is sheet, given.is_open))
                given.put(0, "a", 5)
                return given.to_frame()
            self.assertEqual(used(sheet, action).rows, ((5, "x"), (1, "y")))
            self.assertEqual((seen, sheet.is_open), ([(True, True)], False))
            self.refuses(Closed, {}, used, sheet, action)
            self.assertEqual(len(seen), 1)
        self.assertEqual(used(action=len, sheet=Sheet(frame(3))), 3)
        self.assertIs(used(Sheet(frame(1)), Sheet.close), None)

    def test_used_with_errors(self):
        def fail(given):
            raise KeyError("mine")

        def close_and_fail(given):
            given.close()
            given.put(0, "a", 1)
        sheet = Sheet(frame(2))
        self.assertRaises(KeyError, used, sheet, fail)
        self.assertIs(sheet.is_open, False)
        sheet = Sheet(frame(2))
        self.refuses(Closed, {}, used, sheet, close_and_fail)
        self.assertIs(sheet.is_open, False)
        sheet = Sheet(frame(2))
        self.refuses(InvalidNumber, {"number": 2}, used, sheet, lambda given: given.put(2, "a", 1))
        for value in ANY_VALUES + (frame(1),):
            self.keeps(NotASheet, "value", value, lambda given: used(given, fail))


class NotesTest(ErrorCase):
    def test_notes(self):
        for kind in (NotedSheet, NotedBoundedSheet):
            sheet = kind(frame(2))
            self.assertEqual(sheet.notes(), ())
            self.assertIs(sheet.put(1, "a", 5), None)
            self.assertEqual(sheet.add_row((None, "z")), 2)
            sheet.put(1, "a", 5)
            sheet.put(index=2, value=None, name="b")
            expected = (("put", 1, "a", 5), ("add", (None, "z")), ("put", 1, "a", 5), ("put", 2, "b", None))
            self.assertEqual(sheet.notes(), expected)
            sheet.close()
            self.assertEqual(sheet.notes(), expected)

    def test_what_is_refused_is_not_noted(self):
        sheet = NotedBoundedSheet(frame(2))
        sheet.change_most(2)
        for call, args in ((sheet.put, (2, "a", 1)), (sheet.put, (0, "c", 1)), (sheet.put, (0, "a", "x")), (sheet.add_row, ((1,),)),
                           (sheet.add_row, ((1, "x"),))):
            self.assertRaises(Exception, call, *args)
        self.assertEqual(sheet.notes(), ())

    def test_twins(self):
        for kind in (NotedSheet, NotedBoundedSheet):
            sheet = kind(frame(2))
            sheet.put(0, "a", 1)
            other = sheet.twin()
            sheet.put(0, "a", 2)
            other.add_row((3, ""))
            third = other.twin()
            other.put(0, "b", "")
            self.assertEqual(sheet.notes(), (("put", 0, "a", 1), ("put", 0, "a", 2)))
            self.assertEqual(other.notes(), (("put", 0, "a", 1), ("add", (3, "")), ("put", 0, "b", "")))
            self.assertEqual(third.notes(), (("put", 0, "a", 1), ("add", (3, ""))))

    def test_the_notes_tell_the_rows(self):
        sheet = NotedSheet(frame(2))
        sheet.add_row((5, "x"))
        sheet.twin().put(2, "b", "y")
        sheet.put(2, "a", 6)
        again = Sheet(frame(2))
        for word, *rest in sheet.notes():
            (again.put if word == "put" else again.add_row)(*rest)
        self.assertEqual(again.to_frame(), sheet.to_frame())


class BoundsTest(ErrorCase):
    KINDS = (BoundedSheet, NotedBoundedSheet)

    def test_most(self):
        for kind in self.KINDS:
            sheet = kind(frame(2))
            self.assertIs(sheet.most, None)
            self.assertIs(sheet.change_most(3), None)
            self.assertEqual((sheet.most, sheet.add_row((1, "x"))), (3, 2))
            self.refuses(TooMany, {"limit": 3}, sheet.add_row, (1, "x"))
            self.assertEqual((len(sheet), sheet.copies), (3, 0))
            sheet.put(0, "a", 9)
            self.assertIs(sheet.change_most(most=None), None)
            self.assertEqual((sheet.most, sheet.add_row((1, "x"))), (None, 3))
            sheet.change_most(10 ** 29)
            self.assertEqual(sheet.add_row((1, "x")), 4)

    def test_too_many_comes_behind_invalid_rows(self):
        for kind in self.KINDS:
            sheet = kind(frame(2))
            sheet.change_most(2)
            self.refuses(InvalidRow, {"index": None}, sheet.add_row, (1,))
            self.refuses(InvalidRow, {"index": 1}, sheet.add_row, (1, 1))
            self.refuses(TooMany, {"limit": 2}, sheet.add_row, (1, "x"))
            empty = kind(frame(0))
            empty.change_most(0)
            self.refuses(TooMany, {"limit": 0}, empty.add_row, (1, "x"))

    def test_a_refused_row_copies_nothing(self):
        for kind in self.KINDS:
            sheet = kind(frame(3))
            sheet.change_most(3)
            other = sheet.twin()
            self.refuses(TooMany, {"limit": 3}, other.add_row, (1, "x"))
            self.assertEqual([other.copies, sheet.shared(other), rows_of(other)], [0, 2, frame(3).rows])

    def test_put_is_not_bounded(self):
        for kind in self.KINDS:
            sheet = kind(frame(2))
            sheet.change_most(2)
            sheet.put(1, "a", 7)
            self.assertEqual(rows_of(sheet), ((0, "x"), (7, "y")))

    def test_change_most(self):
        for kind in self.KINDS:
            for value in ANY_VALUES + (2, 0, -1):
                sheet = kind(frame(3))
                sheet.change_most(5)
                if value is not None and (isinstance(value, bool) or not isinstance(value, int) or value < 3):
                    self.keeps(InvalidNumber, "number", value, sheet.change_most)
                    self.assertEqual(sheet.most, 5)
            sheet.change_most(3)
            self.assertEqual(sheet.most, 3)

    def test_twins(self):
        for kind in self.KINDS:
            sheet = kind(frame(1))
            self.assertIs(sheet.twin().most, None)
            sheet.change_most(2)
            other = sheet.twin()
            self.assertEqual(other.most, 2)
            sheet.change_most(1)
            self.assertEqual([other.most, other.add_row((1, "x"))], [2, 1])
            self.raised(TooMany, other.add_row, (1, "x"))
            self.raised(TooMany, sheet.add_row, (1, "x"))

    def test_bases(self):
        self.assertEqual([kind.__bases__ for kind in CLASSES],
                         [(object,), (Sheet,), (Sheet,), (NotedSheet, BoundedSheet)])


if __name__ == "__main__":
    unittest.main()
