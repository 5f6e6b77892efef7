"""The form of the package's files, as far as ../shared/LANGUAGE.md can be looked at by going through their trees."""

import ast
import builtins
import re
import unittest
from pathlib import Path

PACKAGE = Path(__file__).resolve().parent.parent / "countedchances"

STATEMENTS = (
    ast.Assign, ast.AugAssign, ast.If, ast.While, ast.For, ast.Return, ast.Break, ast.Continue, ast.Pass, ast.Raise,
    ast.Try, ast.Expr, ast.FunctionDef, ast.ClassDef, ast.ImportFrom)
EXPRESSIONS = (
    ast.Constant, ast.List, ast.Tuple, ast.Dict, ast.BinOp, ast.UnaryOp, ast.BoolOp, ast.Compare, ast.IfExp, ast.Call,
    ast.Attribute, ast.Subscript, ast.Slice, ast.ListComp, ast.Name)
OPERATORS = (
    ast.Add, ast.Sub, ast.Mult, ast.FloorDiv, ast.Mod, ast.Pow, ast.BitAnd, ast.BitOr, ast.BitXor, ast.LShift,
    ast.RShift)
OWN_NAMES = (
    "len range enumerate zip min max sum abs sorted reversed int str bool list tuple dict isinstance ord repr any all "
    "divmod set Exception ValueError KeyError ZeroDivisionError").split()
METHODS = (
    "append clear copy count endswith extend find get index insert isalnum isalpha isdigit islower isspace isupper "
    "items join keys ljust lower lstrip partition pop remove replace reverse rfind rjust rpartition rsplit rstrip "
    "setdefault split splitlines startswith strip update upper values zfill bit_length").split()
WORDS = (
    "type typing typing_extensions enum Enum IntEnum StrEnum Flag IntFlag Generic Protocol ABC ABCMeta namedtuple "
    "NamedTuple TypedDict TYPE_CHECKING abstractmethod").split()
UNUSED = "register mro elements open input version_info with_traceback add_note chr format format_map sort args".split()
TAKEN = {
    name for kind in (str, int, list, dict, set, bytes) for name in dir(kind)
} - set("count index title find get join lower upper split strip copy add".split())


def files():
    return sorted(PACKAGE.glob("*.py"))


def trees():
    return [(path, ast.parse(path.read_text(encoding="ascii"))) for path in files()]


def bound(tree):
    """Every name that is bound somewhere in the tree."""
    names = set()
    for node in ast.walk(tree):
        if isinstance(node, ast.Name) and isinstance(node.ctx, ast.Store):
            names.add(node.id)
        elif isinstance(node, (ast.FunctionDef, ast.ClassDef)):
            names.add(node.name)
        elif isinstance(node, ast.arg):
            names.add(node.arg)
        elif isinstance(node, ast.alias):
            names.add(node.name)
        elif isinstance(node, ast.ExceptHandler) and node.name:
            names.add(node.name)
    return names


def is_plain(node, functions):
    """Whether a value of a file's top is plain."""
    if isinstance(node, ast.UnaryOp):
        return isinstance(node.op, ast.USub) and isinstance(node.operand, ast.Constant)
    if isinstance(node, ast.Name):
        return node.id in functions
    if isinstance(node, (ast.List, ast.Tuple)):
        return all(is_plain(part, functions) for part in node.elts)
    if isinstance(node, ast.Dict):
        return all(is_plain(part, functions) for part in node.keys + node.values)
    return isinstance(node, ast.Constant)


class Files(unittest.TestCase):
    def test_nothing_but_python_files_lies_there(self):
        self.assertTrue((PACKAGE / "__init__.py").is_file())
        for path in PACKAGE.iterdir():
            if path.name != "__pycache__":
                self.assertRegex(path.name, r"^(__init__|[a-z][a-z0-9_]*)\.py$")

    def test_signs_and_sizes(self):
        for path in files():
            text = path.read_bytes().decode("ascii")
            lines = text.split("\n")
            self.assertLessEqual(len(lines) - 1, 400, path)
            self.assertLessEqual(max(len(line) for line in lines), 120, path)
            self.assertTrue(all(" " <= sign <= "~" or sign == "\n" for sign in text), path)

    def test_words_that_stand_nowhere(self):
        for path in files():
            text = path.read_text()
            for word in WORDS:
                self.assertIsNone(re.search(rf"\b{word}\b", text), (path, word))
            for word in ("dataclass", "overload", "contextmanager"):
                self.assertNotIn(word, text)

    def test_the_files_draw_from_one_another_one_way(self):
        drawn = {}
        for path, tree in trees():
            nodes = [node for node in tree.body if isinstance(node, ast.ImportFrom)]
            drawn[path.stem] = [node.module.split(".")[1] for node in nodes]
        settled = []
        while len(settled) < len(drawn):
            ready = [name for name in drawn if name not in settled and all(d in settled for d in drawn[name])]
            self.assertTrue(ready, "the imports go round")
            settled.extend(ready)


class Trees(unittest.TestCase):
    def test_the_top_of_a_file(self):
        for path, tree in trees():
            self.assertTrue(ast.get_docstring(tree), path)
            functions = []
            names = []
            for node in tree.body[1:]:
                where = (path.name, node.lineno)
                if isinstance(node, ast.FunctionDef):
                    functions.append(node.name)
                    names.append(node.name)
                elif isinstance(node, ast.ClassDef):
                    names.append(node.name)
                elif isinstance(node, ast.ImportFrom):
                    self.assertTrue(node.level == 0 and node.module.startswith("countedchances."), where)
                    self.assertTrue(all(alias.asname is None and alias.name != "*" for alias in node.names), where)
                    names.extend(alias.name for alias in node.names)
                else:
                    self.assertIsInstance(node, ast.Assign, where)
                    self.assertTrue(is_plain(node.value, functions), where)
                    names.append(node.targets[0].id)
            self.assertEqual(len(names), len(set(names)), path)

    def test_imported_names_are_defined_there_and_used(self):
        for path, tree in trees():
            used = {node.id for node in ast.walk(tree) if isinstance(node, ast.Name)}
            for node in tree.body:
                if isinstance(node, ast.ImportFrom):
                    source = ast.parse((PACKAGE / (node.module.split(".")[1] + ".py")).read_text())
                    defined = {n.name for n in source.body if isinstance(n, (ast.FunctionDef, ast.ClassDef))}
                    defined |= {n.targets[0].id for n in source.body if isinstance(n, ast.Assign)}
                    for alias in node.names:
                        self.assertIn(alias.name, defined, path)
                        self.assertIn(alias.name, used, path)

    def test_statements_and_expressions(self):
        for path, tree in trees():
            for node in ast.walk(tree):
                where = (path.name, getattr(node, "lineno", 0), ast.dump(node)[:80])
                if isinstance(node, ast.stmt):
                    self.assertIsInstance(node, STATEMENTS, where)
                if isinstance(node, ast.expr):
                    self.assertIsInstance(node, EXPRESSIONS, where)
                if isinstance(node, ast.operator):
                    self.assertIsInstance(node, OPERATORS, where)
                if isinstance(node, (ast.For, ast.While)):
                    self.assertEqual(node.orelse, [], where)
                if isinstance(node, ast.Assign):
                    self.assertEqual(len(node.targets), 1, where)
                if isinstance(node, ast.Try):
                    self.assertEqual(node.finalbody, [], where)
                if isinstance(node, ast.comprehension):
                    self.assertLessEqual(len(node.ifs), 1, where)
                if isinstance(node, ast.ListComp):
                    self.assertEqual(len(node.generators), 1, where)
                if isinstance(node, ast.Compare) and any(isinstance(op, (ast.Is, ast.IsNot)) for op in node.ops):
                    self.assertIsInstance(node.comparators[0], ast.Constant, where)
                if isinstance(node, ast.Constant):
                    self.assertNotIsInstance(node.value, (float, complex, bytes), where)
                    self.assertNotIn("%", str(node.value), where)

    def test_one_plain_target_in_an_assignment(self):
        for path, tree in trees():
            for node in ast.walk(tree):
                if isinstance(node, (ast.Assign, ast.AugAssign)):
                    target = node.targets[0] if isinstance(node, ast.Assign) else node.target
                    self.assertIsInstance(target, (ast.Name, ast.Attribute, ast.Subscript), (path, node.lineno))

    def test_sets_stand_straight_within_sorted_or_len(self):
        for path, tree in trees():
            calls = [node for node in ast.walk(tree) if isinstance(node, ast.Call) and isinstance(node.func, ast.Name)]
            within = [
                node.args[0] for node in calls if node.func.id in ("sorted", "len") and not node.keywords]
            for node in calls:
                if node.func.id in ("set", "frozenset"):
                    self.assertIn(node, within, (path, node.lineno))

    def test_what_is_walked_at_once(self):
        walking = ("list", "tuple", "dict", "sorted", "sum", "any", "all", "enumerate", "zip", "min", "max")
        for path, tree in trees():
            allowed = []
            for node in ast.walk(tree):
                if isinstance(node, (ast.For, ast.comprehension)):
                    allowed.append(node.iter)
                if isinstance(node, ast.Call) and isinstance(node.func, ast.Name) and node.func.id in walking:
                    allowed.extend(node.args[:1])
            for node in ast.walk(tree):
                if isinstance(node, ast.Call):
                    name = node.func.id if isinstance(node.func, ast.Name) else node.func.attr
                    if name in ("zip", "enumerate", "reversed", "range", "items", "keys", "values"):
                        self.assertIn(node, allowed, (path, node.lineno))

    def test_what_a_loop_walks_is_not_changed_in_it(self):
        for path, tree in trees():
            for loop in ast.walk(tree):
                if not isinstance(loop, ast.For):
                    continue
                walked = {ast.unparse(node) for node in ast.walk(loop.iter) if isinstance(node, (ast.Name, ast.Attribute))}
                for node in [inner for part in loop.body for inner in ast.walk(part)]:
                    if isinstance(node, ast.Subscript) and isinstance(node.ctx, ast.Store):
                        self.assertNotIn(ast.unparse(node.value), walked, (path, node.lineno))
                    if isinstance(node, ast.Call) and isinstance(node.func, ast.Attribute):
                        if node.func.attr in ("append", "extend", "pop", "insert", "remove", "clear", "update"):
                            self.assertNotIn(ast.unparse(node.func.value), walked, (path, node.lineno))

    def test_errors_are_taken_by_their_own_names(self):
        for path, tree in trees():
            for node in ast.walk(tree):
                if isinstance(node, ast.ExceptHandler):
                    self.assertNotIn(ast.unparse(node.type), dir(builtins), (path, node.lineno))
                if isinstance(node, ast.Raise):
                    self.assertIsInstance(node.exc, ast.Call, (path, node.lineno))

    def test_functions_and_classes(self):
        for path, tree in trees():
            for node in ast.walk(tree):
                if isinstance(node, ast.FunctionDef):
                    self.assertLessEqual(node.end_lineno - node.lineno + 1, 40, (path, node.name))
                    self.assertEqual(node.decorator_list, [])
                    self.assertIsNone(node.returns)
                    self.assertTrue(all(arg.annotation is None for arg in node.args.args))
                    self.assertFalse(node.args.vararg or node.args.kwarg or node.args.kwonlyargs)
                if isinstance(node, ast.ClassDef):
                    self.assertIn([ast.unparse(base) for base in node.bases], ([], ["Exception"]))
                    for part in node.body[1:]:
                        self.assertIsInstance(part, ast.FunctionDef)

    def test_names(self):
        for path, tree in trees():
            known = bound(tree)
            own = set(dir(builtins))
            for name in known:
                self.assertTrue(re.fullmatch(r"[A-Za-z][A-Za-z0-9_]*|__init__", name), (path, name))
                self.assertNotIn(name, own, path)
                self.assertNotIn(name, UNUSED, path)
            for node in ast.walk(tree):
                if isinstance(node, ast.Name) and node.id not in known:
                    self.assertIn(node.id, OWN_NAMES, (path, node.lineno))

    def test_locals_are_not_called_like_what_stands_at_the_top(self):
        for path, tree in trees():
            top = {alias.name for node in tree.body if isinstance(node, ast.ImportFrom) for alias in node.names}
            top |= {node.name for node in tree.body if isinstance(node, (ast.FunctionDef, ast.ClassDef))}
            top |= {node.targets[0].id for node in tree.body if isinstance(node, ast.Assign)}
            for function in ast.walk(tree):
                if isinstance(function, ast.FunctionDef):
                    inner = bound(function) - {function.name}
                    self.assertEqual(inner & top, set(), (path, function.name))

    def test_methods_and_values(self):
        methods = set()
        stored = set()
        for path, tree in trees():
            for node in ast.walk(tree):
                if isinstance(node, ast.ClassDef):
                    methods |= {part.name for part in node.body if isinstance(part, ast.FunctionDef)}
                if isinstance(node, ast.Attribute) and isinstance(node.ctx, ast.Store):
                    stored.add(node.attr)
        self.assertEqual(methods & stored, set())
        self.assertEqual(stored & TAKEN, set())
        self.assertEqual((methods - {"__init__"}) & TAKEN, set())
        for path, tree in trees():
            for node in ast.walk(tree):
                if isinstance(node, ast.Call) and isinstance(node.func, ast.Attribute):
                    self.assertIn(node.func.attr, METHODS + sorted(methods), (path, node.lineno))


if __name__ == "__main__":
    unittest.main()
