"""Tests of points 22 and 23 and of labelframes.notation."""

import random
import unittest

from labelframes import notation
from labelframes.errors import InvalidText, NoText
from labelframes.notation import expression_text, plan_text, read_expression, read_plan
from tests.cases import (A, ANY_VALUES, B, EXPRESSION_TEXTS, PLAN_TEXTS, S, ErrorCase, bush_of, chain_of, heap_of,
                         one_edit_away, tower_of)


def chain_text(levels):
    """The text of an expression with so many levels, if that were one."""
    return "not(" * (levels - 1) + "a" + ")" * (levels - 1)


def bush_text(nodes):
    """The text of an expression with so many nodes, if that were one."""
    if nodes == 1:
        return "a"
    if nodes == 2:
        return "not(a)"
    left = (nodes - 1) // 2
    return f"and({bush_text(left)}, {bush_text(nodes - 1 - left)})"


def tower_text(levels):
    """The text of a plan with so many levels, if that were one."""
    return "where(" * (levels - 1) + "scan(s)" + ", a)" * (levels - 1)


def heap_text(nodes):
    """The text of a plan with so many nodes, if that were one."""
    if nodes == 1:
        return "scan(s)"
    if nodes == 2:
        return "where(scan(s), a)"
    left = (nodes - 1) // 2
    return f"stack({heap_text(left)}, {heap_text(nodes - 1 - left)})"


class ExpressionTextTest(ErrorCase):
    def refused(self, text):
        self.keeps(InvalidText, "text", text, read_expression)

    def test_each_form(self):
        for expression, text in EXPRESSION_TEXTS:
            self.assertEqual(expression_text(expression), text)
            self.assertEqual(expression_text(expression=expression), text)
            self.assertEqual(repr(read_expression(text)), repr(expression))
            self.assertEqual(read_expression(text=text), expression)

    def test_nested_forms(self):
        for expression, text in EXPRESSION_TEXTS:
            nested = ("if", ("not", expression), expression, ("else", expression, A))
            self.assertEqual(expression_text(nested), f"if(not({text}), {text}, else({text}, a))")
            self.assertEqual(read_expression(expression_text(nested)), nested)

    def test_all_signs_in_texts(self):
        signs = "".join([chr(code) for code in range(32, 127)])
        for sign in [*signs, signs, "\\" * 40, '"' * 40, "x" * 4000]:
            expression = ("value", "text", sign)
            marked = sign.replace("\\", "\\\\").replace('"', '\\"')
            self.assertEqual(expression_text(expression), f'"{marked}"')
            self.assertEqual(read_expression(f'"{marked}"'), expression)

    def test_no_text(self):
        for name in ("yes", "no", "none"):
            for expression in (("col", name), ("not", ("col", name)), ("if", A, B, ("add", A, ("col", name)))):
                self.raised(NoText, expression_text, expression)
        for name in ("y", "nono", "yesyes", "nones", "all", "up", "int"):
            self.assertEqual(expression_text(("col", name)), name)

    def test_limits(self):
        self.assertEqual(read_expression(chain_text(8)), chain_of(8))
        self.assertEqual(read_expression(bush_text(40)), bush_of(40))
        self.refused(chain_text(9))
        self.refused(bush_text(41))
        self.refused(bush_text(200))
        self.refused("and(" + chain_text(8) + ", a)")

    def test_very_deep_texts(self):
        for word in ("not(", "and(", "if(a, ", "(", "[", '"', "-", "none ", "none(", "yes("):
            self.refused(word * 50000)
            self.refused(word * 50000 + "a" + ")" * 50000)
        self.refused("a" * 100000)
        self.refused("not(a)" + ")" * 100000)

    def test_no_strings(self):
        for value in ANY_VALUES:
            if not isinstance(value, str):
                self.refused(value)
        self.refused(["a"])
        self.refused(A)

    def test_wrong_texts(self):
        for text in ("", " ", " a", "a ", "a\n", "\na", "A", "a1", "1a", "abcdefghi", "a b", "a, b", "a()", "()", "(a)", "[a]",
                     "not()", "not(a", "not a", "not a)", "not(a))", "not( a)", "not(a )", "not (a)", " not(a)",
                     "not(a) ", "not(a, b)", "not[a]", "not{a}", "and(a)", "and(a, )", "and(, a)", "and(a,b)", "and(a,  b)",
                     "and(a , b)", "and(a b)", "and(a; b)", "and(a, b, c)", "and(a, b", "and(a, b),", "and((a), b)", "and(a, b,)",
                     "if(a, b)", "if(a, b, a, b)", "if(a, b, )", "else(a)", "size()", "there(a, b)", "col(a)", "col(a, b)",
                     'value("int", 1)', "value(int, 1)", "value(int)", "scan(s)", "where(scan(s), a)", "xor(a, b)", "neg(a)",
                     "Not(a)", "yes()", "no(a)", "none", "none ", "none a", "none  int", "none int ", "none Int",
                     "none(int)", "none none", "none yes", "not(none)", "yes no", "yes int", "True", "None", "add(a, none)"):
            self.refused(text)

    def test_words_without_parentheses_are_columns(self):
        for word in ("not", "and", "col", "value", "all", "true", "int", "noneint", "yesno"):
            self.assertEqual(read_expression(word), ("col", word))

    def test_wrong_numbers(self):
        for number in ("00", "01", "-0", "-01", "+1", "--1", "-", "- 1", "1-", "1.0", "1e3", "0x1", "1_0", "1,", ",1", "\u0661",
                       "1\u0662", "\u00b2", "\uff11", "0" * 5000, "-" + "0" * 5000, "1" * 5000 + "a"):
            self.refused(number)
            self.refused(f"add(a, {number})")

    def test_wrong_quotes(self):
        for text in ('"', '"a', 'a"', '"a""', '"a"b"', '"a" "b"', '"a"b', "'a'", '"\\"', '"\\a"', '"\\', '"\\\\\\"', '"a\nb"',
                     '"\x7f"', '"\x1f"', '"\u00e4"', '"\t"', '"\\\n"', '"a" ', ' "a"', '""""'):
            self.refused(text)
            self.refused(f"size({text})")


class PlanTextTest(ErrorCase):
    def refused(self, text):
        self.keeps(InvalidText, "text", text, read_plan)

    def test_each_form(self):
        for plan, text in PLAN_TEXTS:
            self.assertEqual(plan_text(plan), text)
            self.assertEqual(plan_text(plan=plan), text)
            self.assertEqual(repr(read_plan(text)), repr(plan))
            self.assertEqual(read_plan(text=text), plan)

    def test_nested_forms(self):
        for plan, text in PLAN_TEXTS:
            nested = ("stack", ("where", plan, ("not", A)), ("join", S, plan, (("a", "b"),), "anti"))
            self.assertEqual(plan_text(nested), f"stack(where({text}, not(a)), join(scan(s), {text}, [a b], anti))")
            self.assertEqual(read_plan(plan_text(nested)), nested)

    def test_each_expression(self):
        for expression, text in EXPRESSION_TEXTS:
            for plan, written in ((("where", S, expression), f"where(scan(s), {text})"),
                                  (("with", S, "n", expression), f"with(scan(s), n, {text})")):
                self.assertEqual(plan_text(plan), written)
                self.assertEqual(repr(read_plan(written)), repr(plan))

    def test_no_text(self):
        for name in ("yes", "no", "none"):
            for plan in (("where", S, ("col", name)), ("with", S, "n", ("not", ("col", name))),
                         ("stack", S, ("pick", ("where", S, ("and", A, ("col", name))), ("a",)))):
                self.raised(NoText, plan_text, plan)

    def test_names_of_plans_are_written_as_they_are(self):
        for name in ("yes", "no", "none", "all", "up", "down", "inner", "scan", "sum", "int"):
            for plan, text in ((("scan", name), f"scan({name})"),
                               (("pick", S, (name, "a")), f"pick(scan(s), [{name}, a])"),
                               (("rename", S, name, "a"), f"rename(scan(s), {name}, a)"),
                               (("sort", S, ((name, False),)), f"sort(scan(s), [{name} down])"),
                               (("join", S, S, ((name, name),), "left"), f"join(scan(s), scan(s), [{name} {name}], left)")):
                self.assertEqual(plan_text(plan), text)
                self.assertEqual(read_plan(text), plan)

    def test_limits(self):
        self.assertEqual(read_plan(tower_text(12)), tower_of(12))
        self.assertEqual(read_plan(heap_text(30)), heap_of(30))
        self.assertEqual(read_plan(f"where(scan(s), {chain_text(8)})"), ("where", S, chain_of(8)))
        self.assertEqual(read_plan(f"where(scan(s), {bush_text(40)})"), ("where", S, bush_of(40)))
        self.refused(tower_text(13))
        self.refused(heap_text(31))
        self.refused(heap_text(100))
        self.refused(f"where(scan(s), {chain_text(9)})")
        self.refused(f"where(scan(s), {bush_text(41)})")

    def test_very_deep_texts(self):
        for word in ("where(", "stack(", "stack(scan(s), ", "pick(", "(", "[", "scan(", "pick(scan(s), [", "where(scan(s), not("):
            self.refused(word * 50000)
            self.refused(word * 50000 + "scan(s)" + ")" * 50000)
        self.refused("pick(scan(s), " + "[" * 50000 + "]" * 50000 + ")")
        self.refused("pick(scan(s), [" + "a, " * 50000 + "a])")
        self.refused("where(scan(s), " + "not(" * 50000 + "a" + ")" * 50001)

    def test_no_strings(self):
        for value in ANY_VALUES:
            self.refused(value)
        self.refused(["scan(s)"])
        self.refused(S)

    def test_wrong_texts(self):
        for text in ("", "s", "scan", "scan()", "scan(s", "scan s", "scan (s)", "scan( s)", "scan(s )", " scan(s)", "scan(s) ",
                     "scan(s)\n", "scan(s))", "(scan(s))", "scan(S)", "scan(abcdefghi)", "scan(s, t)", "scan(\"s\")", "scan([s])",
                     "Scan(s)", "union(scan(s), scan(s))", "not(a)", "a", "where(scan(s))", "where(scan(s), )",
                     "where(scan(s),a)", "where(scan(s),  a)", "where(s, a)", "where(a, scan(s))", "where(scan(s), a, b)",
                     "where(scan(s), scan(s))", "where(scan(s), xor(a, b))", "where(scan(s), not(a)", "where(scan(s), [a])"):
            self.refused(text)

    def test_wrong_fields(self):
        for fields in ("pick(P, a)", "pick(P, [])", "pick(P, [a, a])", "pick(P, [a b])", "pick(P, [a,b])", "pick(P, [a , b])",
                       "pick(P, [ a])", "pick(P, [a ])", "pick(P, [a, ])", "pick(P, [, a])", "pick(P, [a,  b])", "pick(P, [a)",
                       "pick(P, a])", "pick(P, [[a]])", "pick(P, (a))", "pick(P, [a], [b])", "pick(P, [\"a\"])", "pick(P, [A])",
                       "pick(P)", "pick(P, )", "first(P, [])", "first(P, [abcdefghi])", "rename(P, a)", "rename(P, a, b, c)",
                       "rename(P, [a], b)", "rename(P, a b)", "rename(P, a, 1)", "with(P, a)", "with(P, a, )", "with(P, 1, a)",
                       "with(P, a, a, a)", "with(P, [a], b)", "sort(P, [])", "sort(P, [a])", "sort(P, [up])", "sort(P, [a yes])",
                       "sort(P, [a  up])", "sort(P, [a up, a down])", "sort(P, [a up b])", "sort(P, [up a])", "sort(P, a up)",
                       "sort(P, [a Up])", "sort(P, [a up down])", "slice(P, 0)", "slice(P, all, 0)", "slice(P, 0, none)",
                       "slice(P, 0, None)", "slice(P, -1, 0)", "slice(P, 0, -1)", "slice(P, 00, 1)", "slice(P, 0, 01)",
                       "slice(P, 0, -0)", "slice(P, +1, 0)", "slice(P, 0, alls)", "slice(P, 0, al)", "slice(P, 0, all, 0)",
                       "slice(P, 0, all all)", "slice(P, 0, )", "slice(P, a, 0)", "slice(P, \u0661, 0)", "stack(P)",
                       "stack(P, P, P)", "stack(P, a)", "stack(P P)", "join(P, P, [], inner)", "join(P, P, [a], inner)",
                       "join(P, P, [a b c], inner)", "join(P, P, [a b, a c], inner)", "join(P, P, [a c, b c], inner)",
                       "join(P, P, [a b])", "join(P, P, [a b], outer)", "join(P, P, [a b], \"inner\")", "join(P, P, a b, inner)",
                       "join(P, P, [a, b], inner)", "join(P, [a b], inner)", "join(P, P, [a b], inner, P)", "group(P, [a])",
                       "group(P, [], [])", "group(P, [a], [n sum])", "group(P, [a], [n avg a])", "group(P, [a], [n, sum, a])",
                       "group(P, [a], [n sum a b])", "group(P, [a], n sum a)", "group(P, [a], [n sum a,])", "group(P, a, [])",
                       "group(P, [a], [])x", "running(P, n, first, a, [])", "running(P, n, sum, a)", "running(P, n, sum, a, a)",
                       "running(P, n, sum, a, [a, a])", "running(P, n sum a, [])", "running(P, sum, n, a, [])",
                       "melt(P, [], [], l, v)", "melt(P, [a], [a], l, v)", "melt(P, [a, a], [b], l, v)", "melt(P, [], [a], l)",
                       "melt(P, [], [a], l, v, w)", "melt(P, [ ], [a], l, v)", "melt(P, a, [b], l, v)"):
            self.refused(fields.replace("P", "scan(s)"))


class EditedTest(unittest.TestCase):
    """Whatever text is read, that is the text of what is returned; every other one is refused with the text."""

    def reads_only_texts(self, read, write, text):
        try:
            found = read(text)
        except InvalidText as error:
            self.assertIs(error.text, text)
            return
        self.assertEqual(write(found), text)

    def test_edited_expressions(self):
        for _, text in EXPRESSION_TEXTS:
            for edited in one_edit_away(text, 'abno(),"\\ -01[]\n\u0661'):
                self.reads_only_texts(read_expression, expression_text, edited)

    def test_edited_plans(self):
        for _, text in PLAN_TEXTS:
            for edited in one_edit_away(text, 'as(), -01[]"\n'):
                self.reads_only_texts(read_plan, plan_text, edited)

    def test_words_put_together(self):
        draw = random.Random(22)
        words = ["a", "1", "-", "0", "yes", "none", " int", "not(", "and(", "col(", "value(", ")", ", ", "(", " ", '"', "\\", '"b"',
                 "scan(s)", "pick(", "sort(", "slice(", "[a]", "[a up]", "[", "]", "all", "where("]
        for _ in range(60000):
            text = "".join([draw.choice(words) for _ in range(draw.randrange(1, 7))])
            self.reads_only_texts(read_expression, expression_text, text)
            self.reads_only_texts(read_plan, plan_text, text)


class ModuleTest(unittest.TestCase):
    def test_equal_calls_return_equal_results(self):
        for write, read, samples in ((expression_text, read_expression, EXPRESSION_TEXTS), (plan_text, read_plan, PLAN_TEXTS)):
            for value, text in samples:
                self.assertEqual(write(value), write(value))
                self.assertEqual(read(text), read(text))

    def test_functions_stand_in_the_module(self):
        for name in ("expression_text", "plan_text", "read_expression", "read_plan"):
            self.assertEqual(getattr(notation, name).__module__, "labelframes.notation")


if __name__ == "__main__":
    unittest.main()
