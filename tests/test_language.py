"""Tests of ../shared/LANGUAGE.md: those of its rules that can be seen from the code of the package alone."""

import ast
import builtins
import os
import re
import unittest

FOLDER = os.path.join(os.path.dirname(os.path.dirname(os.path.abspath(__file__))), "labelframes")
BUILTINS = set("""len range enumerate zip min max sum abs sorted reversed int str bool bytes list tuple dict set frozenset
isinstance ord repr any all divmod pow getattr hasattr setattr map iter next type Exception ValueError TypeError KeyError
IndexError LookupError ZeroDivisionError ArithmeticError OverflowError RuntimeError NotImplementedError AttributeError
StopIteration NotImplemented property staticmethod classmethod super""".split())
METHODS = set("""append clear copy count endswith extend find get index insert isalnum isalpha isdigit islower isspace isupper
items join keys ljust lower lstrip partition pop remove replace reverse rfind rjust rpartition rsplit rstrip setdefault split
splitlines startswith strip update upper values zfill bit_length add discard isascii isprintable""".split())
SPECIAL = set("""__init__ __eq__ __repr__ __str__ __len__ __bool__ __enter__ __exit__ __call__ __iter__ __contains__ __getitem__ __add__
__sub__ __mul__ __floordiv__ __and__ __or__ __invert__""".split())
BARRED = set("""mro elements open input law version_info with_traceback add_note register attrgetter breakpoint builtins compile
copyright credits delattr dir eval exec exit gc globals help id importlib license locals methodcaller os quit vars sys typing
typing_extensions enum Enum IntEnum StrEnum Flag IntFlag Generic Protocol ABC ABCMeta namedtuple NamedTuple TypedDict
TYPE_CHECKING abstractmethod dataclass overload contextmanager _wall _WallAttr _cold _tuplegetter _outside _record _written_out
_member_names""".split())
STATEMENTS = (ast.FunctionDef, ast.ClassDef, ast.Return, ast.Delete, ast.Assign, ast.AugAssign, ast.For, ast.While, ast.If,
              ast.With, ast.Match, ast.Raise, ast.Try, ast.Assert, ast.ImportFrom, ast.Nonlocal, ast.Expr, ast.Pass,
              ast.Break, ast.Continue)
LIBRARY = {"heapq", "math", "itertools", "collections"}

# For each file its functions, and its classes with their methods, all with their parameters.
OTHER = dict.fromkeys(("equals", "less", "at_most", "modulo", "glued", "otherwise", "__add__", "__sub__", "__mul__", "__floordiv__",
                       "__and__", "__or__", "__eq__"), "self, other")
SELF = dict.fromkeys(("__str__", "__repr__"), "self")
INTERFACE = (
    ("frames", {}, {
        "Frame": {"__init__": "self, schema, rows=()", "schema": "self", "rows": "self", "names": "self", "read": "cls, text",
                  "column": "self, name", "table": "self", "__len__": "self", "__getitem__": "self, at", "__eq__": "self, other", **SELF},
        "House": {"__init__": "self, **frames", "names": "self", "schemas": "self", "replaced": "self, **frames",
                  "__getitem__": "self, name", "__contains__": "self, name", "__len__": "self", "__eq__": "self, other"}}),
    ("notation", {"expression_text": "expression", "plan_text": "plan", "read_expression": "text", "read_plan": "text"}, {}),
    ("expressions", {"columns_of": "expression", "kind_of": "expression, schema", "value_of": "expression, schema, row",
                     "folded": "expression"}, {
        "Expr": {"__init__": "self, expression", "col": "name", "missing": "kind", "of": "cls, value", "read": "cls, text",
                 "tree": "self", "__invert__": "self", "there": "self", "size": "self", "choose": "self, one, two",
                 "__call__": "self, frame", **OTHER, **SELF}}),
    ("plans", {"schema_of": "plan, schemas", "sources_of": "plan", "node_at": "plan, path"}, {
        "Pipe": {"__init__": "self, plan", "scan": "source", "read": "cls, text", "plan": "self", "where": "self, expr",
                 "with_column": "self, name, expr", "pick": "self, *names", "first": "self, *names", "rename": "self, old, new",
                 "slice": "self, start, count=None", "sorted_by": "self, *names, up=True",
                 "joined": "self, other, *pairs, how='inner'", "group": "self, *names, **sums",
                 "running": "self, new, function, name, *by", "melt": "self, label, value, *names, keep=()",
                 "__add__": "self, other", "__call__": "self, house", "__len__": "self", "__eq__": "self, other", **SELF}}),
    ("running", {"run": "plan, house", "result": "the_plan, **frames"}, {}),
    ("rewriting", {"rules_at": "plan, path, schemas", "rewritten": "plan, steps, schemas", "best": "plan, schemas"}, {}),
    ("demand", {"rows_of": "the_plan, **feeds", "chunks": "the_plan, the_size, **feeds"}, {}),
    ("origins", {"origins": "plan, house", "narrowed": "house, origin"}, {}),
    ("simple", {"is_simple": "plan, schemas", "correspondence": "plan, other, schemas", "alike": "plan, other, schemas",
                "difference": "plan, other, schemas"}, {}),
    ("sheets", {"used": "sheet, action"}, {
        "Sheet": {"__init__": "self, frame, *, block=4", "schema": "self", "copies": "self", "is_open": "self",
                  "put": "self, index, name, value", "add_row": "self, row", "to_frame": "self", "twin": "self", "close": "self",
                  "shared": "self, other", "__enter__": "self", "__exit__": "self, kind, value, trace", "__len__": "self"},
        "NotedSheet": {"notes": "self", "put": "self, index, name, value", "add_row": "self, row", "twin": "self"},
        "BoundedSheet": {"most": "self", "change_most": "self, most", "add_row": "self, row", "twin": "self"},
        "NotedBoundedSheet": {"twin": "self"}}),
    ("kept", {}, {
        "Kept": {"__init__": "self, plan, house", "house": "self", "frame": "self", "busy": "self", "attempts": "self",
                 "do": "self, change", "insert_row": "self, source, index, row", "remove_row": "self, source, index",
                 "replace_row": "self, source, index, row", "do_all": "self, changes, *, watch=None", "undo": "self",
                 "history": "self", "__len__": "self", "__bool__": "self", "__eq__": "self, other"}}),
    ("checker", {"accepts": "claim, certificate"}, {}),
    ("certificates", {"certify_best": "plan, schemas", "certify_alike": "plan, other, schemas"}, {}),
    ("console", {}, {"Console": {"__init__": "self, **frames", "say": "self, line"}}),
)


def modules():
    """The name, the text and the tree of each file."""
    for name in sorted(os.listdir(FOLDER)):
        if name.endswith(".py"):
            with open(os.path.join(FOLDER, name), encoding="utf-8") as file:
                text = file.read()
            yield name[:-3], text, ast.parse(text)


def nodes_of(kinds):
    """Each node of these kinds, with the place where it stands."""
    for name, _, tree in modules():
        for node in ast.walk(tree):
            if isinstance(node, kinds):
                yield node, f"{name}.py:{getattr(node, 'lineno', 0)}"


def docstrings(tree):
    """The docstrings of a file."""
    kinds = (ast.Module, ast.ClassDef, ast.FunctionDef)
    return [node.body[0].value for node in ast.walk(tree) if isinstance(node, kinds) and ast.get_docstring(node) is not None]


class FilesTest(unittest.TestCase):
    def test_files(self):
        for name in os.listdir(FOLDER):
            if name != "__pycache__":
                self.assertRegex(name, r"\A(__init__|__main__|[a-z][a-z0-9_]*)\.py\Z")
                self.assertFalse(name.startswith(("test", "law_")), name)
                if not name.startswith("__"):
                    self.assertFalse(hasattr(builtins, name[:-3]), name)

    def test_signs(self):
        for name, text, _ in modules():
            self.assertRegex(text, r"\A[ -~\n]*\Z", name)
            self.assertTrue(text.endswith("\n") and not re.search(r"[ ]\n", text), name)

    def test_sizes(self):
        for name, text, _ in modules():
            lines = text.split("\n")
            self.assertLess(len(lines), 400, name)
            self.assertLessEqual(max([len(line) for line in lines]), 120, name)
        for node, place in nodes_of(ast.FunctionDef):
            self.assertLessEqual(node.end_lineno - node.lineno + 1, 40, place)


class ImportsTest(unittest.TestCase):
    def test_forms(self):
        self.assertEqual([place for _, place in nodes_of(ast.Import)], [])
        for name, _, tree in modules():
            rest = tree.body[1:]
            while rest and isinstance(rest[0], ast.ImportFrom):
                rest = rest[1:]
            for statement in rest:
                self.assertFalse([node for node in ast.walk(statement) if isinstance(node, ast.ImportFrom)], name)
        for node, place in nodes_of(ast.ImportFrom):
            self.assertEqual(node.level, 0, place)
            self.assertTrue(node.module.startswith("labelframes.") or node.module in LIBRARY, place)
            self.assertTrue(all([alias.name != "*" and alias.asname is None for alias in node.names]), place)

    def test_names_stand_in_the_files_that_define_them(self):
        defined = {}
        for name, _, tree in modules():
            bound = [node.name for node in tree.body if isinstance(node, (ast.FunctionDef, ast.ClassDef))]
            bound += [node.targets[0].id for node in tree.body if isinstance(node, ast.Assign)]
            imported = [alias.name for node in tree.body if isinstance(node, ast.ImportFrom) for alias in node.names]
            self.assertEqual(len(set(bound + imported)), len(bound + imported), name)
            defined["labelframes." + name] = bound
        for node, place in nodes_of(ast.ImportFrom):
            for alias in node.names:
                self.assertIn(alias.name, defined.get(node.module, [alias.name]), place)

    def test_no_circles(self):
        reached = {name: {node.module.split(".")[-1] for node in tree.body if isinstance(node, ast.ImportFrom)}
                   for name, _, tree in modules()}
        for _ in reached:
            for name, others in reached.items():
                reached[name] = others.union(*[reached.get(other, set()) for other in others])
        for name, others in reached.items():
            self.assertNotIn(name, others)


class StatementsTest(unittest.TestCase):
    def test_module_level(self):
        for name, _, tree in modules():
            self.assertIsNotNone(ast.get_docstring(tree), name)
            for node in tree.body[1:]:
                self.assertIsInstance(node, (ast.ImportFrom, ast.FunctionDef, ast.ClassDef, ast.Assign), name)

    def test_statements(self):
        for node, place in nodes_of(ast.stmt):
            self.assertIsInstance(node, STATEMENTS, place)

    def test_no_floats_and_no_division(self):
        for node, place in nodes_of(ast.Constant):
            self.assertNotIsInstance(node.value, (float, complex), place)
        self.assertEqual([place for _, place in nodes_of((ast.Div, ast.MatMult))], [])

    def test_decorators(self):
        for node, place in nodes_of((ast.FunctionDef, ast.ClassDef)):
            for decorator in node.decorator_list:
                self.assertIn(ast.unparse(decorator), ("property", "staticmethod", "classmethod"), place)

    def test_is(self):
        for node, place in nodes_of(ast.Compare):
            for sign, right in zip(node.ops, node.comparators):
                if isinstance(sign, (ast.Is, ast.IsNot)):
                    self.assertIn(ast.unparse(right), ("None", "True", "False"), place)

    def test_any_and_its_kin_take_lists(self):
        for node, place in nodes_of(ast.Call):
            if ast.unparse(node.func) in ("any", "all", "min", "max", "sum", "sorted"):
                self.assertFalse([item for item in node.args if isinstance(item, ast.GeneratorExp)], place)

    def test_errors_are_created_where_they_are_raised(self):
        for node, place in nodes_of(ast.Raise):
            self.assertTrue(node.exc is None or isinstance(node.exc, ast.Call), place)

    def test_no_set_is_iterated(self):
        for node, place in nodes_of((ast.For, ast.comprehension)):
            self.assertNotIsInstance(node.iter, (ast.Set, ast.SetComp), place)
            self.assertNotRegex(ast.unparse(node.iter), r"\A(set|frozenset)\(", place)


class NamesTest(unittest.TestCase):
    def test_builtins(self):
        for node, place in nodes_of(ast.Name):
            if hasattr(builtins, node.id):
                self.assertIn(node.id, BUILTINS, place)
                self.assertIsInstance(node.ctx, ast.Load, place)
        for node, place in nodes_of(ast.arg):
            self.assertFalse(hasattr(builtins, node.arg), place)
        for name, _, tree in modules():
            for node in tree.body:
                if isinstance(node, (ast.FunctionDef, ast.ClassDef)):
                    self.assertFalse(hasattr(builtins, node.name), name)

    def test_barred_names(self):
        for node, place in nodes_of(ast.AST):
            for field in ("id", "name", "attr", "arg"):
                name = getattr(node, field, None)
                if isinstance(name, str):
                    self.assertNotIn(name, BARRED, place)
                    self.assertTrue(name in SPECIAL or not name.startswith("__"), place)

    def test_barred_words(self):
        for name, text, _ in modules():
            for word in ("_wall", "dataclass", "overload", "contextmanager", "(type)", "Meta", "metaclass="):
                self.assertNotIn(word, text, name)

    def test_no_percent_signs_and_no_unusual_escapes(self):
        for name, text, tree in modules():
            skipped = docstrings(tree)
            for node in ast.walk(tree):
                if isinstance(node, ast.Constant) and isinstance(node.value, str) and node not in skipped:
                    self.assertNotIn("%", node.value, name)
            self.assertNotRegex(text.replace("\\\\", ""), r"\\[^nt\"'\\]", name)

    def test_methods(self):
        own = {node.name for node, _ in nodes_of(ast.FunctionDef)}
        for node, place in nodes_of(ast.Call):
            if isinstance(node.func, ast.Attribute):
                self.assertIn(node.func.attr, METHODS | own, place)

    def test_no_local_name_is_that_of_an_import_or_a_class(self):
        for name, _, tree in modules():
            taken = {alias.name for node in tree.body if isinstance(node, ast.ImportFrom) for alias in node.names}
            taken |= {node.name for node in tree.body if isinstance(node, ast.ClassDef)}
            for node in ast.walk(tree):
                if isinstance(node, ast.arg):
                    self.assertNotIn(node.arg, taken, name)
                if isinstance(node, ast.Name) and isinstance(node.ctx, ast.Store):
                    self.assertNotIn(node.id, taken, name)


class GeneratorsTest(unittest.TestCase):
    def generators(self):
        """The functions that yield, by their names."""
        return {node.name: node for node, _ in nodes_of(ast.FunctionDef)
                if any([isinstance(inner, (ast.Yield, ast.YieldFrom)) for inner in ast.walk(node)])}

    def test_names(self):
        every = [node.name for node, _ in nodes_of(ast.FunctionDef)]
        for name, node in self.generators().items():
            self.assertEqual(every.count(name), 1, name)
            self.assertNotIn(name, METHODS)
            self.assertEqual(node.decorator_list, [])

    def test_yields_are_statements_outside_of_try_and_with(self):
        for name, node in self.generators().items():
            for inner in ast.walk(node):
                self.assertNotIsInstance(inner, (ast.Try, ast.With, ast.GeneratorExp), name)
                self.assertFalse(isinstance(inner, ast.Return) and inner.value is not None, name)
            yields = [inner for inner in ast.walk(node) if isinstance(inner, (ast.Yield, ast.YieldFrom))]
            alone = [inner.value for inner in ast.walk(node) if isinstance(inner, ast.Expr)]
            self.assertTrue(all([inner in alone for inner in yields]), name)

    def test_calls_are_iterated_at_once_beside_plain_names(self):
        names = self.generators()
        fit = []
        for node, _ in nodes_of((ast.For, ast.YieldFrom, ast.Call)):
            if isinstance(node, ast.Call) and ast.unparse(node.func) in ("list", "tuple"):
                fit += node.args
            elif not isinstance(node, ast.Call):
                fit.append(node.iter if isinstance(node, ast.For) else node.value)
        fitting = {ast.unparse(node) for node in fit}
        for node, place in nodes_of(ast.Call):
            if isinstance(node.func, ast.Name) and node.func.id in names:
                self.assertIn(ast.unparse(node), fitting, place)
                self.assertTrue(all([isinstance(item, ast.Name) for item in node.args]) and node.keywords == [], place)
        for node, place in nodes_of(ast.Name):
            if node.id in names:
                self.assertIsInstance(node.ctx, ast.Load, place)


class MatchTest(unittest.TestCase):
    def test_captured_names_mean_nothing_else(self):
        for node, place in nodes_of(ast.FunctionDef):
            captured = {inner.name for inner in ast.walk(node) if isinstance(inner, (ast.MatchAs, ast.MatchStar)) and inner.name}
            stored = {inner.id for inner in ast.walk(node) if isinstance(inner, ast.Name) and isinstance(inner.ctx, ast.Store)}
            taken = stored | {inner.arg for inner in ast.walk(node) if isinstance(inner, ast.arg)}
            self.assertEqual(captured & taken, set(), place)
            self.assertFalse([name for name in captured if hasattr(builtins, name)], place)

    def test_names_are_read_in_their_own_case(self):
        for node, place in nodes_of(ast.FunctionDef):
            matches = [inner for inner in ast.walk(node) if isinstance(inner, ast.Match)]
            outside = node.body
            for match in matches:
                captured = {inner.name for inner in ast.walk(match) if isinstance(inner, (ast.MatchAs, ast.MatchStar)) and inner.name}
                rest = [statement for statement in outside if statement is not match]
                for statement in rest:
                    self.assertFalse([inner for inner in ast.walk(statement) if isinstance(inner, ast.Name) and inner.id in captured],
                                     place)
                for case in match.cases:
                    own = {inner.name for inner in ast.walk(case.pattern) if isinstance(inner, (ast.MatchAs, ast.MatchStar))}
                    for inner in ast.walk(case):
                        self.assertFalse(isinstance(inner, ast.Name) and inner.id in captured - own, place)

    def test_patterns(self):
        allowed = (ast.MatchValue, ast.MatchSingleton, ast.MatchSequence, ast.MatchStar, ast.MatchAs, ast.MatchOr)
        for node, place in nodes_of(ast.match_case):
            for inner in ast.walk(node.pattern):
                if isinstance(inner, ast.pattern):
                    self.assertIsInstance(inner, allowed, place)
                if isinstance(inner, ast.MatchOr):
                    self.assertFalse([part for part in ast.walk(inner) if isinstance(part, (ast.MatchAs, ast.MatchStar))], place)
            if node.guard is not None:
                self.assertFalse([inner for inner in ast.walk(node.guard) if isinstance(inner, ast.Call)], place)


class ClassesTest(unittest.TestCase):
    def test_no_name_is_a_method_and_an_attribute(self):
        methods, attributes = set(), set()
        for node, _ in nodes_of(ast.ClassDef):
            methods |= {inner.name for inner in node.body if isinstance(inner, ast.FunctionDef)}
        for node, _ in nodes_of(ast.Attribute):
            if isinstance(node.ctx, ast.Store):
                attributes.add(node.attr)
        self.assertEqual(methods & attributes, set())

    def test_attributes_are_assigned_through_local_names(self):
        for node, place in nodes_of(ast.Attribute):
            if isinstance(node.ctx, ast.Store):
                self.assertIsInstance(node.value, ast.Name, place)

    def test_super_is_called_for_a_method(self):
        for node, place in nodes_of(ast.Attribute):
            if isinstance(node.value, ast.Call) and ast.unparse(node.value.func) == "super":
                self.assertTrue(node.attr == "__init__" or not node.attr.startswith("__"), place)

    def test_what_closes(self):
        for node, place in nodes_of(ast.FunctionDef):
            if node.name in ("__exit__", "_let_go"):
                for statement in node.body:
                    self.assertIsInstance(statement, (ast.Expr, ast.Assign), place)
                    if isinstance(statement, ast.Assign):
                        self.assertIn(ast.unparse(statement.value), ("False", "[]"), place)

    def test_finally(self):
        for node, place in nodes_of(ast.Try):
            for statement in [inner for part in node.finalbody for inner in ast.walk(part) if isinstance(inner, ast.stmt)]:
                self.assertIsInstance(statement, (ast.Assign, ast.If), place)
                if isinstance(statement, ast.If):
                    self.assertRegex(ast.unparse(statement.test), r"\A\w+ is None\Z", place)
                else:
                    self.assertRegex(ast.unparse(statement.value), r"\A\w+\Z", place)

    def test_handlers_name_errors_of_the_package(self):
        with open(os.path.join(FOLDER, "errors.py"), encoding="utf-8") as file:
            own = {node.name for node in ast.parse(file.read()).body if isinstance(node, ast.ClassDef)}
        for node, place in nodes_of(ast.ExceptHandler):
            self.assertIn(ast.unparse(node.type), own, place)


class InterfaceTest(unittest.TestCase):
    def test_names_are_defined_in_their_files(self):
        trees = {name: tree for name, _, tree in modules()}
        for name, functions, classes in INTERFACE:
            defined = {node.name: node for node in trees[name].body if isinstance(node, (ast.FunctionDef, ast.ClassDef))}
            for function, parameters in functions.items():
                self.assertIsInstance(defined[function], ast.FunctionDef)
                self.assertEqual(ast.unparse(defined[function].args), parameters, function)
            for kind, methods in classes.items():
                found = {node.name: node for node in defined[kind].body if isinstance(node, ast.FunctionDef)}
                for method, parameters in methods.items():
                    self.assertEqual(ast.unparse(found[method].args), parameters, f"{kind}.{method}")

    def test_class_values(self):
        tree = {name: tree for name, _, tree in modules()}["sheets"]
        sheet = [node for node in tree.body if isinstance(node, ast.ClassDef) and node.name == "Sheet"][0]
        self.assertIn("MOST_BLOCK = 100", [ast.unparse(node) for node in sheet.body])

    def test_rules_are_a_tuple_of_their_file(self):
        tree = {name: tree for name, _, tree in modules()}["rewriting"]
        self.assertIn("RULES", [node.targets[0].id for node in tree.body if isinstance(node, ast.Assign)])


class SpecialMethodsTest(unittest.TestCase):
    def test_returns(self):
        for node, place in nodes_of(ast.FunctionDef):
            ends = [inner.value for inner in ast.walk(node) if isinstance(inner, ast.Return)]
            if node.name == "__init__":
                self.assertEqual(ends, [], place)
            if node.name == "__len__":
                self.assertTrue(all([ast.unparse(end).startswith("len(") for end in ends]), place)
            if node.name in ("__str__", "__repr__"):
                for end in ends:
                    self.assertRegex(ast.unparse(end), r"\A(f?['\"].*|str\(.*|repr\(.*)\Z", place)
            if node.name == "__eq__":
                self.assertRegex(ast.unparse(node.body[0]), r"\Areturn isinstance\(other, \w+\) and ", place)

    def test_lengths_are_those_of_what_is_held(self):
        for node, place in nodes_of(ast.FunctionDef):
            if node.name == "__len__":
                calls = [inner for inner in ast.walk(node) if isinstance(inner, ast.Call)]
                listed = [item for call in calls if ast.unparse(call.func) == "list" for item in call.args]
                ranges = [call for call in calls if ast.unparse(call.func) == "range"]
                self.assertTrue(all([call in listed for call in ranges]), place)

    def test_classes_with_brackets_are_not_iterated_over(self):
        for node, place in nodes_of(ast.ClassDef):
            methods = {method.name for method in node.body if isinstance(method, ast.FunctionDef)}
            if "__getitem__" in methods:
                self.assertIn("__iter__", methods, place)


if __name__ == "__main__":
    unittest.main()
