"""The rules of the program's language that can be seen in its files one by one."""

import ast
import builtins
import pathlib
import re
import unittest

PACKAGE = pathlib.Path(__file__).resolve().parent.parent / "letinrow"
FILES = sorted(path for path in PACKAGE.rglob("*") if path.is_file() and "__pycache__" not in path.parts)
WORDS = """type typing typing_extensions enum Enum IntEnum StrEnum Flag IntFlag Generic Protocol ABC ABCMeta
    namedtuple NamedTuple TypedDict TYPE_CHECKING abstractmethod""".split()
NAMES_BARRED = "register mro elements open input version_info with_traceback add_note".split()
BUILTINS = """len range enumerate zip min max sum abs sorted reversed int str bool bytes list tuple dict set
    frozenset isinstance ord repr any all divmod iter next Exception ValueError TypeError KeyError IndexError
    LookupError ZeroDivisionError ArithmeticError OverflowError RuntimeError NotImplementedError AttributeError
    StopIteration NotImplemented""".split()
METHODS = "__init__ __eq__ __repr__ __str__ __len__".split()


def trees():
    for path in FILES:
        yield path.name, ast.parse(path.read_text(encoding="ascii"))


def nodes(kind):
    for name, tree in trees():
        for node in ast.walk(tree):
            if isinstance(node, kind):
                yield f"{name}:{getattr(node, 'lineno', 0)}", node


def bound_names(tree):
    """The names that parameters and targets have."""
    for node in ast.walk(tree):
        if isinstance(node, ast.arg):
            yield node.arg
        if isinstance(node, ast.Name) and isinstance(node.ctx, ast.Store):
            yield node.id


class Files(unittest.TestCase):
    def test_files(self):
        self.assertIn("__init__.py", [path.name for path in FILES])
        for path in FILES:
            self.assertRegex(path.name, r"^[a-z_0-9]+\.py$")
            self.assertEqual(path.parent, PACKAGE)

    def test_signs_and_lines(self):
        for path in FILES:
            text = path.read_bytes()
            self.assertEqual([sign for sign in text if sign != 10 and not 32 <= sign <= 126], [], path)
            lines = text.split(b"\n")
            self.assertLessEqual(len(lines), 400, path)
            self.assertLessEqual(max(map(len, lines)), 120, path)

    def test_words(self):
        for path in FILES:
            found = re.findall(r"\w+", path.read_text())
            self.assertEqual(set(found) & set(WORDS), set(), path)
            for part in ("dataclass", "overload", "contextmanager"):
                self.assertFalse([word for word in found if part in word], path)

    def test_strings(self):
        for where, node in nodes(ast.Constant):
            self.assertNotIsInstance(node.value, float, where)
            if isinstance(node.value, str):
                self.assertNotIn("%", node.value, where)


class Code(unittest.TestCase):
    def test_module_level(self):
        kinds = (ast.ImportFrom, ast.FunctionDef, ast.ClassDef, ast.Assign)
        for name, tree in trees():
            self.assertTrue(ast.get_docstring(tree), name)
            for node in tree.body[1:]:
                self.assertIsInstance(node, kinds, name)

    def test_imports(self):
        for where, node in nodes(ast.Import):
            self.fail(where)
        for where, node in nodes(ast.ImportFrom):
            self.assertTrue(node.module.startswith("letinrow."), where)
            path = PACKAGE / (node.module.removeprefix("letinrow.") + ".py")
            own = [part.name for part in ast.parse(path.read_text()).body if hasattr(part, "name")]
            for alias in node.names:
                self.assertIn(alias.name, own, where)

    def test_no_ring_of_imports(self):
        wanted = {name.removesuffix(".py"): set() for name, _ in trees()}
        for where, node in nodes(ast.ImportFrom):
            wanted[where.split(".py")[0]].add(node.module.removeprefix("letinrow."))
        while wanted:
            free = [name for name in wanted if not wanted[name] & set(wanted)]
            self.assertTrue(free, wanted)
            for name in free:
                del wanted[name]

    def test_small_functions(self):
        for where, node in nodes(ast.FunctionDef):
            self.assertLessEqual(node.end_lineno - node.lineno + 1, 40, where)

    def test_names(self):
        for name, tree in trees():
            taken = {alias.name for node in ast.walk(tree) if isinstance(node, ast.ImportFrom) for alias in node.names}
            taken |= {node.name for node in tree.body if isinstance(node, ast.ClassDef)}
            for bound in bound_names(tree):
                self.assertRegex(bound, r"^[A-Za-z]", name)
                self.assertNotIn(bound, set(dir(builtins)) | taken | set(NAMES_BARRED), name)
        for where, node in nodes(ast.FunctionDef):
            self.assertTrue(not node.name.startswith("_") or node.name in METHODS, where)

    def test_builtins(self):
        for where, node in nodes(ast.Name):
            if hasattr(builtins, node.id):
                self.assertIn(node.id, BUILTINS, where)

    def test_nothing_left_out_of_the_language(self):
        barred = (ast.Global, ast.AsyncFunctionDef, ast.Await, ast.Div, ast.GeneratorExp)
        for where, node in nodes(barred):
            self.fail(f"{where} {node}")

    def test_no_name_is_a_method_and_an_attribute(self):
        methods = {part.name for _, node in nodes(ast.ClassDef) for part in node.body if hasattr(part, "name")}
        stored = {node.attr for _, node in nodes(ast.Attribute) if isinstance(node.ctx, ast.Store)}
        self.assertIn("row", methods)
        self.assertIn("number", stored)
        self.assertEqual(methods & stored, set())

    def test_iterated_at_once(self):
        for where, node in nodes((ast.Assign, ast.Return)):
            called = node.value.func if isinstance(node.value, ast.Call) else None
            if isinstance(called, ast.Name):
                self.assertNotIn(called.id, ("zip", "enumerate", "reversed", "range"), where)

    def test_sets_are_not_iterated(self):
        for where, node in nodes((ast.For, ast.comprehension)):
            called = node.iter.func if isinstance(node.iter, ast.Call) else None
            self.assertFalse(isinstance(called, ast.Name) and called.id == "set", where)
            self.assertNotIsInstance(node.iter, (ast.Set, ast.SetComp), where)

    def test_is_only_of_none_true_false(self):
        for where, node in nodes(ast.Compare):
            for sign, right in zip(node.ops, node.comparators):
                if isinstance(sign, (ast.Is, ast.IsNot)):
                    self.assertIsInstance(right, ast.Constant, where)
                    self.assertIn(str(right.value), ("None", "True", "False"), where)


if __name__ == "__main__":
    unittest.main()
