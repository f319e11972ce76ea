"""Tests of point 24: the text of a frame, written and read."""

import random
import unittest

from labelframes.errors import InvalidText
from labelframes.frames import Frame
from tests.cases import ANY_VALUES, ErrorCase, one_edit_away

SIGNS = "".join([chr(code) for code in range(32, 127)])
INT = (("a", "int"),)
TEXT = (("a", "text"),)
BOOL = (("a", "bool"),)

WRITTEN = (
    (Frame(INT), "a:int\n"),
    (Frame((("abcdefgh", "bool"), ("yes", "text"))), "abcdefgh:bool,yes:text\n"),
    (Frame(INT, ((0,), (-1,), (10,), (None,), (10 ** 30 - 1,), (1 - 10 ** 30,))),
     "a:int\n0\n-1\n10\n\n" + "9" * 30 + "\n-" + "9" * 30 + "\n"),
    (Frame(BOOL, ((True,), (False,), (None,))), "a:bool\nyes\nno\n\n"),
    (Frame(TEXT, (("",), (None,), (" ",), (",",), ("yes",), ("1",))), 'a:text\n""\n\n" "\n","\n"yes"\n"1"\n'),
    (Frame(TEXT, (('"',), ("\\",), ('\\"',), ('a"b\\c,d',))), 'a:text\n"\\""\n"\\\\"\n"\\\\\\""\n"a\\"b\\\\c,d"\n'),
    (Frame(INT, ((None,),)), "a:int\n\n"),
    (Frame(INT, ((None,), (None,))), "a:int\n\n\n"),
    (Frame((("a", "int"), ("b", "text"), ("c", "bool")), ((None, None, None), (1, None, True), (None, "x", None))),
     'a:int,b:text,c:bool\n,,\n1,,yes\n,"x",\n'),
)


class WrittenTest(ErrorCase):
    def test_texts(self):
        for frame, text in WRITTEN:
            self.assertEqual(str(frame), text)
            self.assertEqual(Frame.read(text), frame)
            self.assertEqual(Frame.read(text=text).rows, frame.rows)

    def test_all_signs(self):
        frame = Frame(TEXT, tuple([(sign,) for sign in SIGNS]) + ((SIGNS,),))
        self.assertEqual(Frame.read(str(frame)), frame)
        marked = SIGNS.replace("\\", "\\\\").replace('"', '\\"')
        self.assertEqual(str(Frame(TEXT, ((SIGNS,),))), f'a:text\n"{marked}"\n')

    def test_kinds_are_read_back(self):
        frame = Frame.read('a:int,b:text,c:bool\n1,"1",yes\n')
        self.assertEqual(repr(frame.rows), "((1, '1', True),)")

    def test_long_texts_and_numbers(self):
        frame = Frame((("a", "int"), ("b", "text")), ((10 ** 999, "x" * 4000), (-(10 ** 999), "\\" * 2000)))
        self.assertEqual(Frame.read(str(frame)), frame)

    def test_any_frames(self):
        draw = random.Random(24)
        for _ in range(300):
            frame = any_frame(draw)
            self.assertEqual(Frame.read(str(frame)), frame)


class RefusedTest(ErrorCase):
    def refused(self, text):
        self.keeps(InvalidText, "text", text, Frame.read)

    def test_no_text(self):
        for value in ANY_VALUES:
            self.refused(value)
        self.refused(["a:int\n"])
        self.refused(b"a:int\n")
        self.refused(Frame(INT))

    def test_headers(self):
        for header in ("", "a", "a:", ":int", "a int", "a:int,", ",a:int", "a:int,,b:int", "a:int, b:int", " a:int",
                       "a :int", "a: int", "a:int ", "A:int", "a1:int", "abcdefghi:int", "a:Int", "a:integer", "a:str",
                       "a:none", "a:int,a:int", "a:int,b:int,a:text", "a:int:int", "a;int", "a:int\r", "\u00e4:int",
                       '"a":int', "a:int;b:int", "a:int,b"):
            self.refused(header + "\n")
            self.refused(header)

    def test_newlines(self):
        for text in ("a:int", "a:int\n1", "\na:int\n", "a:int\r\n", "a:int\n1\r\n", "a:int,b:int\n\n", "a:int,b:int\n1,2\n\n",
                     "a:int\n1\n\n ", "a:text\n\"a\nb\"\n", "\n", "\n\n", "a:int,b:int\n1,"):
            self.refused(text)

    def test_one_newline_more_is_a_row_of_one_missing_value(self):
        self.assertEqual(Frame.read("a:int\n1\n\n").rows, ((1,), (None,)))

    def test_numbers(self):
        for cell in ("00", "01", "-0", "-01", "+1", "--1", "-", "1-", " 1", "1 ", "1.0", "1e3", "0x1", "1_0", '"1"', "yes",
                     "one", "none", "\u0661", "\u00b2", "1\u0662", "\uff11", "0" * 5000, "1" * 5000 + "a"):
            self.refused(f"a:int\n{cell}\n")
            self.refused(f"b:int,a:int\n1,{cell}\n")
            self.refused(f"a:int,b:int\n{cell},1\n")

    def test_texts(self):
        for cell in ('"', '"a', 'a"', "a", "'a'", '"a""b"', '""a""', '"a" ', ' "a"', '"\\"', '"\\a"', '"\\n"', '"a\\', '"\\\\\\"',
                     '"\\ "', '"\\,"', '"\t"', '"\x7f"', '"\x1f"', '"\u00e4"', "1", "yes", "\\", '"a"b', '"a"\\', '"\\\n"'):
            self.refused(f"a:text\n{cell}\n")
            self.refused(f"b:text,a:text\n,{cell}\n")
            self.refused(f'a:text,b:text\n{cell},"b"\n')

    def test_truth_values(self):
        for cell in ("Yes", "y", "yess", "ye", "noo", "n", "true", "True", "1", "0", '"yes"', " yes", "no ", "none", "-",
                     "yesno", "\uff59es"):
            self.refused(f"a:bool\n{cell}\n")
            self.refused(f"a:bool,b:bool\n{cell},no\n")

    def test_numbers_of_cells(self):
        for rows in ("1", "1,2,3", "1,2,", ",1,2", ",,", "1,2\n3", "1,2\n3,4,5", "1,,2"):
            self.refused(f"a:int,b:int\n{rows}\n")
        self.refused("a:int\n1,\n")
        self.refused("a:int\n,\n")
        self.refused("a:int\n1,2\n")


class EditedTest(unittest.TestCase):
    """Whatever text is read, its frame has this very text; every other one is refused with the text."""

    def reads_only_texts(self, text):
        try:
            frame = Frame.read(text)
        except InvalidText as error:
            self.assertIs(error.text, text)
            return
        self.assertEqual(str(frame), text)

    def test_edited_texts(self):
        signs = 'ab:,"\\\n -+019yesnoint\r\u0661'
        for _, text in WRITTEN:
            if len(text) < 70:
                for edited in one_edit_away(text, signs):
                    self.reads_only_texts(edited)

    def test_texts_edited_twice(self):
        draw = random.Random(5)
        texts = ['a:int\n-1\n', 'a:bool,b:text\n,""\nyes,"\\\\"\n', "a:text\n\n"]
        for _ in range(20000):
            text = draw.choice(texts)
            for _ in range(3):
                at = draw.randrange(len(text) + 1)
                text = text[:at] + draw.choice(["", *'ab:,"\\\n -01']) + text[at + draw.randrange(2):]
            self.reads_only_texts(text)


def any_value(draw, kind):
    """A value of a kind."""
    if draw.random() < 0.2:
        return None
    if kind == "int":
        return draw.choice([0, 1, -1, draw.randrange(-10 ** 30 + 1, 10 ** 30), draw.randrange(-99, 100)])
    if kind == "text":
        signs = draw.choice([SIGNS, '",\\ a'])
        return "".join([draw.choice(signs) for _ in range(draw.randrange(8))])
    return draw.random() < 0.5


def any_frame(draw):
    """A frame."""
    names = draw.sample(["a", "b", "yes", "no", "none", "int", "abcdefgh"], draw.randrange(1, 6))
    schema = tuple([(name, draw.choice(["int", "text", "bool"])) for name in names])
    rows = [tuple([any_value(draw, kind) for _, kind in schema]) for _ in range(draw.randrange(6))]
    return Frame(schema, tuple(rows))


if __name__ == "__main__":
    unittest.main()
