"""The rules of ../shared/LANGUAGE.md that can be seen in a file without running it."""

import ast
import builtins
import pathlib
import re
import unittest

PACKAGE = pathlib.Path(__file__).resolve().parent.parent / "bowfloor"
SOURCES = {path: path.read_text(encoding="utf-8") for path in sorted(PACKAGE.glob("*.py"))}
TREES = {path: ast.parse(source) for path, source in SOURCES.items()}

BUILTINS = set("""len range enumerate zip min max sum abs sorted reversed int str bool bytes list tuple dict set
frozenset isinstance ord repr any all divmod super property staticmethod classmethod Exception ValueError TypeError
KeyError IndexError LookupError ZeroDivisionError ArithmeticError OverflowError RuntimeError NotImplementedError
AttributeError StopIteration NotImplemented""".split())
METHODS = set("""__init__ __eq__ __repr__ __str__ __len__ __enter__ __exit__ __call__ __iter__ __lt__ __le__ __gt__
__ge__ __ne__ __contains__ __getitem__ __setitem__ __bool__""".split())
VALUE_METHODS = set("""add append clear copy count discard endswith extend find get index insert isalnum isalpha isdigit
islower isspace isupper items join keys ljust lower lstrip partition pop remove replace reverse rfind rjust rpartition
rsplit rstrip setdefault split splitlines startswith strip update upper values zfill bit_length""".split())
PASSING = set("zip enumerate reversed range items keys values".split())
BARRED_WORDS = re.compile(
    r"\b(type|typing|typing_extensions|enum|Enum|IntEnum|StrEnum|Flag|IntFlag|Generic|Protocol|ABC|ABCMeta|namedtuple"
    r"|NamedTuple|TypedDict|TYPE_CHECKING|abstractmethod)\b|dataclass|overload|contextmanager")
BARRED_NAMES = set("""register mro elements open input version_info with_traceback add_note attrgetter breakpoint
builtins compile copyright credits delattr dir eval exec exit gc getattr globals hasattr help id importlib license
locals methodcaller os quit setattr type vars sys""".split())
BARRED_NODES = (ast.Global, ast.AsyncFunctionDef, ast.AsyncFor, ast.AsyncWith, ast.Await, ast.Div)


def bound_names(tree):
    """All names that the file gives to something, with their lines."""
    for node in ast.walk(tree):
        if isinstance(node, (ast.FunctionDef, ast.ClassDef)):
            yield node.name, node
        elif isinstance(node, ast.arg):
            yield node.arg, node
        elif isinstance(node, ast.Name) and isinstance(node.ctx, ast.Store):
            yield node.id, node
        elif isinstance(node, ast.Attribute) and isinstance(node.ctx, ast.Store):
            yield node.attr, node
        elif isinstance(node, ast.ImportFrom):
            for alias in node.names:
                yield alias.asname or alias.name, node


class LanguageTest(unittest.TestCase):
    def each_node(self, *kinds):
        for path, source in SOURCES.items():
            for node in ast.walk(ast.parse(source)):
                if isinstance(node, kinds):
                    yield f"{path.name}:{getattr(node, 'lineno', 0)}", node

    def test_the_folder_contains_python_files_only(self):
        found = [path for path in PACKAGE.iterdir() if path.name != "__pycache__"]
        self.assertEqual(sorted(SOURCES), sorted(found))
        for path in found:
            self.assertRegex(path.name, r"^[a-z0-9_]+\.py$")

    def test_imports(self):
        for where, node in self.each_node(ast.Import, ast.ImportFrom):
            self.assertIsInstance(node, ast.ImportFrom, where)
            self.assertEqual(0, node.level, where)
            self.assertRegex(node.module, r"^bowfloor\.[a-z]+$", where)
            defined = dict(bound_names(ast.parse(SOURCES[PACKAGE / f"{node.module.split('.')[1]}.py"])))
            for alias in node.names:
                self.assertNotIsInstance(defined[alias.name], ast.ImportFrom, where)

    def test_module_level(self):
        for path, source in SOURCES.items():
            for at, node in enumerate(ast.parse(source).body):
                allowed = (ast.ImportFrom, ast.FunctionDef, ast.ClassDef, ast.Assign)
                self.assertTrue(isinstance(node, allowed) or at == 0 and isinstance(node, ast.Expr), path)

    def test_sizes_and_characters(self):
        for path, source in SOURCES.items():
            lines = source.split("\n")
            self.assertLessEqual(len(lines), 400, path)
            self.assertLessEqual(max(len(line) for line in lines), 120, path)
            self.assertRegex(source, r"\A[\n -~]*\Z", path)
        for where, node in self.each_node(ast.FunctionDef):
            self.assertLessEqual(node.end_lineno - node.lineno + 1, 40, where)

    def test_names(self):
        for path, source in SOURCES.items():
            for name, node in bound_names(ast.parse(source)):
                where = f"{path.name}:{node.lineno} {name}"
                self.assertTrue(name in METHODS or not name.startswith("_"), where)
                self.assertNotIn(name, BARRED_NAMES, where)
                if not isinstance(node, ast.Attribute) and name not in METHODS:
                    self.assertFalse(hasattr(builtins, name), where)

    def test_names_of_imports_mean_nothing_else(self):
        for path, source in SOURCES.items():
            names = list(bound_names(ast.parse(source)))
            imported = {name for name, node in names if isinstance(node, ast.ImportFrom)}
            for name, node in names:
                if not isinstance(node, (ast.ImportFrom, ast.Attribute)):
                    self.assertNotIn(name, imported, f"{path.name}:{node.lineno}")

    def test_no_two_files_import_from_each_other(self):
        ahead = {path.stem: {node.module.split(".")[1] for node in ast.walk(ast.parse(source))
                             if isinstance(node, ast.ImportFrom)} for path, source in SOURCES.items()}
        while ahead:
            free = [name for name, needed in ahead.items() if not needed & set(ahead)]
            self.assertTrue(free, ahead)
            for name in free:
                del ahead[name]

    def test_methods_of_builtin_values_and_own_ones(self):
        own = {part.name for where, node in self.each_node(ast.ClassDef) for part in node.body
               if isinstance(part, ast.FunctionDef)}
        attributes = {node.attr for where, node in self.each_node(ast.Attribute) if isinstance(node.ctx, ast.Store)}
        self.assertFalse(own & (VALUE_METHODS | attributes))
        self.assertFalse(attributes & VALUE_METHODS)
        for where, node in self.each_node(ast.Call):
            if isinstance(node.func, ast.Attribute):
                self.assertIn(node.func.attr, VALUE_METHODS | own, where)

    def test_attributes_are_assigned_in_a_class(self):
        assigned = {node.attr for where, node in self.each_node(ast.Attribute) if isinstance(node.ctx, ast.Store)}
        called = {id(node.func) for path, source in SOURCES.items() for node in ast.walk(TREES[path])
                  if isinstance(node, ast.Call)}
        for path, tree in TREES.items():
            for node in ast.walk(tree):
                if isinstance(node, ast.Attribute) and id(node) not in called:
                    self.assertIn(node.attr, assigned, f"{path.name}:{node.lineno}")

    def test_passing_values_are_iterated_on_the_spot(self):
        for where, node in self.each_node(ast.Assign, ast.Return):
            if isinstance(node.value, ast.Call):
                called = getattr(node.value.func, "id", getattr(node.value.func, "attr", ""))
                self.assertNotIn(called, PASSING, where)

    def test_builtins(self):
        for where, node in self.each_node(ast.Name):
            if isinstance(node.ctx, ast.Load) and hasattr(builtins, node.id):
                self.assertIn(node.id, BUILTINS, where)

    def test_barred_words_and_statements(self):
        for path, source in SOURCES.items():
            self.assertIsNone(BARRED_WORDS.search(source), path)
        for where, node in self.each_node(*BARRED_NODES):
            self.fail(f"{where}: {node}")

    def test_numbers_and_strings(self):
        for where, node in self.each_node(ast.Constant):
            self.assertNotIsInstance(node.value, (float, complex), where)
            if isinstance(node.value, str):
                self.assertNotIn("%", node.value, where)

    def test_is_only_beside_none_true_and_false(self):
        for where, node in self.each_node(ast.Compare):
            if any(isinstance(sign, (ast.Is, ast.IsNot)) for sign in node.ops):
                for part in node.comparators:
                    self.assertIn(repr(getattr(part, "value", part)), ("None", "True", "False"), where)

    def test_generators_are_consumed_on_the_spot(self):
        for path, source in SOURCES.items():
            tree = ast.parse(source)
            consumed = {id(node.args[0]) for node in ast.walk(tree) if isinstance(node, ast.Call) and node.args}
            for node in ast.walk(tree):
                if isinstance(node, ast.GeneratorExp):
                    self.assertIn(id(node), consumed, f"{path.name}:{node.lineno}")


if __name__ == "__main__":
    unittest.main()
