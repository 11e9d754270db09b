"""Those rules of the language subset that a look at each file alone can tell."""

import ast
import builtins
import pathlib
import re
import unittest

FOLDER = pathlib.Path(__file__).parent.parent / "sureparts"

BUILTINS = set("""len range enumerate zip min max sum abs sorted reversed int str bool list tuple dict set isinstance
ord repr any all divmod map iter next Exception ValueError TypeError KeyError IndexError LookupError
ZeroDivisionError ArithmeticError OverflowError RuntimeError NotImplementedError StopIteration NotImplemented
type super property staticmethod classmethod getattr hasattr setattr""".split())

METHODS = set("""append clear copy count endswith extend find get index insert isalnum isalpha isdigit islower isspace
isupper items join keys ljust lower lstrip partition pop remove replace reverse rfind rjust rpartition rsplit rstrip
setdefault split splitlines startswith strip update upper values zfill bit_length sort add discard""".split())

DUNDERS = set("""__init__ __eq__ __repr__ __str__ __len__ __enter__ __exit__ __call__ __iter__ __contains__
__getitem__""".split())

BARRED = set("""typing typing_extensions enum Enum IntEnum StrEnum Flag IntFlag Generic Protocol ABC ABCMeta namedtuple
NamedTuple TypedDict TYPE_CHECKING abstractmethod register mro elements open input law version_info
with_traceback add_note""".split())

LIBRARY = {"heapq", "math", "itertools", "collections"}

NOT_ALLOWED = (ast.AsyncFunctionDef, ast.AsyncFor, ast.AsyncWith, ast.Await, ast.Global, ast.Div, ast.MatMult,
               ast.Import, ast.AnnAssign)

GATHERED = {"any", "all", "sum", "min", "max", "sorted"}


def files():
    return sorted(path for path in FOLDER.iterdir() if path.name != "__pycache__")


def trees():
    for path in files():
        yield path.name, ast.parse(path.read_text(encoding="ascii"))


def nodes(*kinds):
    for name, tree in trees():
        for node in ast.walk(tree):
            if isinstance(node, kinds):
                yield name, node


def bound_names(tree):
    """The names that a file binds anywhere, attributes left out."""
    for node in ast.walk(tree):
        if isinstance(node, (ast.FunctionDef, ast.ClassDef)):
            yield node.name
        elif isinstance(node, ast.arg):
            yield node.arg
        elif isinstance(node, ast.Name) and not isinstance(node.ctx, ast.Load):
            yield node.id
        elif isinstance(node, (ast.alias, ast.ExceptHandler)) and node.name:
            yield node.name


def imported(tree):
    return [node.module for node in tree.body if isinstance(node, ast.ImportFrom)]


class Language(unittest.TestCase):
    def test_files(self):
        self.assertTrue((FOLDER / "__init__.py").is_file())
        for path in files():
            self.assertRegex(path.name, r"\A[a-z0-9_]+\.py\Z")

    def test_lines(self):
        for path in files():
            text = path.read_text(encoding="utf-8")
            self.assertRegex(text, r"\A[ -~\n]*\Z", path.name)
            self.assertTrue(text.endswith("\n"), path.name)
            lines = text.split("\n")
            self.assertLessEqual(len(lines) - 1, 399, path.name)
            self.assertLessEqual(max(len(line) for line in lines), 120, path.name)

    def test_functions_are_short(self):
        for name, node in nodes(ast.FunctionDef):
            self.assertLessEqual(node.end_lineno - node.lineno + 1, 40, (name, node.name))
            self.assertFalse(node.decorator_list and ast.unparse(node.decorator_list[0]) not in
                             ("property", "staticmethod", "classmethod"), (name, node.name))

    def test_no_barred_statements(self):
        self.assertEqual([(name, node) for name, node in nodes(*NOT_ALLOWED)], [])
        for name, node in nodes(ast.Constant):
            self.assertNotIsInstance(node.value, (float, complex), name)

    def test_imports(self):
        graph = {}
        for name, tree in trees():
            graph[name[:-3]] = [module.split(".")[1] for module in imported(tree) if module.startswith("sureparts.")]
            for node in ast.walk(tree):
                if isinstance(node, ast.ImportFrom):
                    self.assertIn(node, tree.body, name)
                    self.assertEqual(node.level, 0, name)
                    self.assertTrue(node.module in LIBRARY or node.module.startswith("sureparts."), name)
                    self.assertFalse(any(alias.asname for alias in node.names), name)
        done = []
        while len(done) < len(graph):
            ready = [name for name in graph if name not in done and all(inner in done for inner in graph[name])]
            self.assertTrue(ready, "files that import from each other")
            done += ready

    def test_imported_names_are_defined_where_they_are_taken_from(self):
        own = {"sureparts." + name[:-3]: tree for name, tree in trees()}
        for name, node in nodes(ast.ImportFrom):
            if node.module in own:
                defined = [inner.name for inner in own[node.module].body
                           if isinstance(inner, (ast.FunctionDef, ast.ClassDef))]
                defined += [target.id for inner in own[node.module].body if isinstance(inner, ast.Assign)
                            for target in inner.targets]
                for alias in node.names:
                    self.assertIn(alias.name, defined, name)

    def test_names(self):
        for name, tree in trees():
            taken = [alias.name for node in tree.body if isinstance(node, ast.ImportFrom) for alias in node.names]
            classes = [node.name for node in tree.body if isinstance(node, ast.ClassDef)]
            top = taken + classes
            self.assertEqual(len(top), len(set(top)), name)
            for bound in bound_names(tree):
                if bound.startswith("__"):
                    self.assertIn(bound, DUNDERS, name)
                    continue
                self.assertRegex(bound, r"\A(_|_?[A-Za-z][A-Za-z0-9_]*)\Z", name)
                self.assertFalse(bound != "_" and hasattr(builtins, bound), (name, bound))
                self.assertNotIn(bound, BARRED, name)
            inner = [node.arg for node in ast.walk(tree) if isinstance(node, ast.arg)]
            inner += [node.id for node in ast.walk(tree)
                      if isinstance(node, ast.Name) and not isinstance(node.ctx, ast.Load)]
            for bound in inner:
                self.assertNotIn(bound, top, name)

    def test_builtins(self):
        for name, tree in trees():
            known = set(bound_names(tree)) | BUILTINS
            for node in ast.walk(tree):
                if isinstance(node, ast.Name) and isinstance(node.ctx, ast.Load):
                    self.assertIn(node.id, known, name)
                    self.assertNotEqual(node.id, "_", name)

    def test_methods(self):
        own = {node.name for _, node in nodes(ast.FunctionDef)}
        for name, node in nodes(ast.Call):
            if isinstance(node.func, ast.Attribute):
                self.assertIn(node.func.attr, METHODS | own | {"__init__"}, name)

    def test_gathered_from_lists(self):
        for name, node in nodes(ast.Call):
            if isinstance(node.func, ast.Name) and node.func.id in GATHERED:
                self.assertFalse([inner for inner in node.args if isinstance(inner, ast.GeneratorExp)], name)

    def test_is_stands_with_constants(self):
        for name, node in nodes(ast.Compare):
            for sign, right in zip(node.ops, node.comparators):
                if isinstance(sign, (ast.Is, ast.IsNot)):
                    self.assertTrue(isinstance(right, ast.Constant) and right.value in (None, True, False), name)

    def test_strings(self):
        for name, node in nodes(ast.Constant):
            if isinstance(node.value, str):
                self.assertNotIn("%", node.value, name)
                self.assertFalse(re.match(r"__.*__\Z", node.value), name)


if __name__ == "__main__":
    unittest.main()
