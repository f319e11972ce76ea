"""What several test files need: a test case that compares errors, and samples of expressions and plans."""

import unittest


class ErrorCase(unittest.TestCase):
    """A test case that asks for the very class of an error and for its attributes."""

    def raised(self, kind, call, *args, **named):
        """The error that a call raises, which must be of just this class."""
        with self.assertRaises(kind) as caught:
            call(*args, **named)
        self.assertIs(type(caught.exception), kind)
        return caught.exception

    def refuses(self, kind, attributes, call, *args, **named):
        """Asks that a call raises an error with these attributes; True is not taken for 1."""
        error = self.raised(kind, call, *args, **named)
        self.assertEqual(repr(vars(error)), repr(attributes))
        self.assertEqual(vars(error), attributes)

    def keeps(self, kind, attribute, value, call):
        """Asks that a call with a value raises an error that keeps this very value."""
        self.assertIs(getattr(self.raised(kind, call, value), attribute), value)


class Odd:
    """A value that claims to be equal to any other one."""

    def __eq__(self, other):
        return True

    __hash__ = None


ANY_VALUES = (None, True, False, 0, 1, -1, 10 ** 30, "", "a", "A", "a b", b"a", (), ("a",), [], ["a"], {}, {"a": 1},
              {"a"}, object(), Odd(), print, int, (1, ("a", [None])))

A = ("col", "a")
B = ("col", "b")
S = ("scan", "s")
T = ("scan", "t")
TEN = ("value", "int", 10)
YES = ("value", "bool", True)

# Each form of point 8 with its text.
EXPRESSION_TEXTS = (
    (A, "a"),
    (("col", "abcdefgh"), "abcdefgh"),
    (("col", "and"), "and"),
    (("col", "int"), "int"),
    (("col", "col"), "col"),
    (("col", "nones"), "nones"),
    (("col", "yesno"), "yesno"),
    (("value", "int", 0), "0"),
    (TEN, "10"),
    (("value", "int", -7), "-7"),
    (("value", "int", 9876543210), "9876543210"),
    (("value", "int", 10 ** 29), "1" + "0" * 29),
    (("value", "text", ""), '""'),
    (("value", "text", "Rome"), '"Rome"'),
    (("value", "text", 'a"b\\c'), '"a\\"b\\\\c"'),
    (("value", "text", ", ()[] ~"), '", ()[] ~"'),
    (("value", "text", "yes"), '"yes"'),
    (YES, "yes"),
    (("value", "bool", False), "no"),
    (("value", "int", None), "none int"),
    (("value", "text", None), "none text"),
    (("value", "bool", None), "none bool"),
    (("add", A, TEN), "add(a, 10)"),
    (("sub", A, TEN), "sub(a, 10)"),
    (("mul", A, TEN), "mul(a, 10)"),
    (("div", A, TEN), "div(a, 10)"),
    (("mod", A, TEN), "mod(a, 10)"),
    (("glue", A, B), "glue(a, b)"),
    (("size", A), "size(a)"),
    (("eq", A, B), "eq(a, b)"),
    (("lt", A, B), "lt(a, b)"),
    (("le", A, B), "le(a, b)"),
    (("and", A, YES), "and(a, yes)"),
    (("or", A, B), "or(a, b)"),
    (("not", A), "not(a)"),
    (("there", A), "there(a)"),
    (("if", A, B, TEN), "if(a, b, 10)"),
    (("else", A, ("value", "int", None)), "else(a, none int)"),
    (("and", ("lt", ("col", "age"), ("value", "int", 30)), ("not", ("eq", ("col", "city"), ("value", "text", "Rome")))),
     'and(lt(age, 30), not(eq(city, "Rome")))'),
)

# Each form of point 11 with its text.
PLAN_TEXTS = (
    (S, "scan(s)"),
    (("where", S, A), "where(scan(s), a)"),
    (("where", S, ("lt", A, TEN)), "where(scan(s), lt(a, 10))"),
    (("pick", S, ("a",)), "pick(scan(s), [a])"),
    (("pick", S, ("b", "a")), "pick(scan(s), [b, a])"),
    (("rename", S, "a", "b"), "rename(scan(s), a, b)"),
    (("rename", S, "a", "a"), "rename(scan(s), a, a)"),
    (("with", S, "c", ("add", A, TEN)), "with(scan(s), c, add(a, 10))"),
    (("sort", S, (("a", True),)), "sort(scan(s), [a up])"),
    (("sort", S, (("a", False), ("up", True))), "sort(scan(s), [a down, up up])"),
    (("slice", S, 0, None), "slice(scan(s), 0, all)"),
    (("slice", S, 3, 0), "slice(scan(s), 3, 0)"),
    (("slice", S, 98, 99), "slice(scan(s), 98, 99)"),
    (("slice", S, 10 ** 29, 12), "slice(scan(s), 1" + "0" * 29 + ", 12)"),
    (("first", S, ("a",)), "first(scan(s), [a])"),
    (("first", S, ("a", "b", "c")), "first(scan(s), [a, b, c])"),
    (("stack", S, T), "stack(scan(s), scan(t))"),
    (("join", S, T, (("a", "b"),), "inner"), "join(scan(s), scan(t), [a b], inner)"),
    (("join", S, T, (("a", "b"), ("b", "a")), "left"), "join(scan(s), scan(t), [a b, b a], left)"),
    (("join", S, T, (("a", "a"),), "semi"), "join(scan(s), scan(t), [a a], semi)"),
    (("join", S, T, (("a", "a"),), "anti"), "join(scan(s), scan(t), [a a], anti)"),
    (("group", S, ("a",), ()), "group(scan(s), [a], [])"),
    (("group", S, ("a", "b"), (("n", "count", "a"), ("n", "last", "a"))),
     "group(scan(s), [a, b], [n count a, n last a])"),
    (("group", S, ("a",), (("c", "there", "a"), ("d", "sum", "a"), ("e", "min", "a"), ("f", "max", "a"),
                           ("g", "first", "a"))),
     "group(scan(s), [a], [c there a, d sum a, e min a, f max a, g first a])"),
    (("running", S, "n", "count", "a", ()), "running(scan(s), n, count, a, [])"),
    (("running", S, "n", "there", "a", ("b",)), "running(scan(s), n, there, a, [b])"),
    (("running", S, "n", "sum", "a", ("b", "c")), "running(scan(s), n, sum, a, [b, c])"),
    (("running", S, "n", "min", "a", ()), "running(scan(s), n, min, a, [])"),
    (("running", S, "n", "max", "a", ()), "running(scan(s), n, max, a, [])"),
    (("melt", S, (), ("a",), "l", "v"), "melt(scan(s), [], [a], l, v)"),
    (("melt", S, ("c", "d"), ("a", "b"), "l", "v"), "melt(scan(s), [c, d], [a, b], l, v)"),
    (("group", ("sort", ("scan", "sales"), (("city", True), ("age", False))), ("city",),
      (("n", "count", "age"), ("sum", "sum", "price"))),
     "group(sort(scan(sales), [city up, age down]), [city], [n count age, sum sum price])"),
    (("stack", ("where", S, ("there", A)), ("slice", ("stack", T, S), 0, 5)),
     "stack(where(scan(s), there(a)), slice(stack(scan(t), scan(s)), 0, 5))"),
)


def chain_of(levels):
    """An expression with so many levels, one part in each."""
    expression = A
    for _ in range(levels - 1):
        expression = ("not", expression)
    return expression


def bush_of(nodes):
    """An expression with so many nodes and few levels."""
    if nodes == 1:
        return A
    if nodes == 2:
        return ("not", A)
    left = (nodes - 1) // 2
    return ("and", bush_of(left), bush_of(nodes - 1 - left))


def tower_of(levels):
    """A plan with so many levels, one node in each."""
    plan = S
    for _ in range(levels - 1):
        plan = ("where", plan, A)
    return plan


def heap_of(nodes):
    """A plan with so many nodes and few levels."""
    if nodes == 1:
        return S
    if nodes == 2:
        return ("where", S, A)
    left = (nodes - 1) // 2
    return ("stack", heap_of(left), heap_of(nodes - 1 - left))


def one_edit_away(text, signs):
    """All texts that differ from this one by a sign more, less or in place of another."""
    for at in range(len(text) + 1):
        for sign in signs:
            yield text[:at] + sign + text[at:]
            if at < len(text):
                yield text[:at] + sign + text[at + 1:]
        if at < len(text):
            yield text[:at] + text[at + 1:]
        if at + 1 < len(text):
            yield text[:at] + text[at + 1] + text[at] + text[at + 2:]
