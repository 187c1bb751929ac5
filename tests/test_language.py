"""The rules of the Python subset that a look at the text of the package can tell."""

import ast
import builtins
import pathlib
import re
import unittest

PACKAGE = pathlib.Path(__file__).resolve().parent.parent / "tornrelay"
FILES = sorted(PACKAGE.rglob("*.py"))

ALLOWED_BUILTINS = set(
    "len range enumerate zip min max sum abs sorted reversed int str bool bytes list tuple dict set frozenset "
    "isinstance ord repr any all divmod Exception ValueError TypeError KeyError IndexError LookupError "
    "ZeroDivisionError ArithmeticError OverflowError RuntimeError NotImplementedError AttributeError StopIteration "
    "NotImplemented super property staticmethod classmethod".split()
)
ALLOWED_METHODS = set(
    "append clear copy count endswith extend find get index insert isalnum isalpha isdigit islower isspace isupper "
    "items join keys ljust lower lstrip partition pop remove replace reverse rfind rjust rpartition rsplit rstrip "
    "setdefault split splitlines startswith strip update upper values zfill bit_length title capitalize swapcase "
    "casefold center expandtabs removeprefix removesuffix rindex isascii isdecimal isnumeric istitle isidentifier "
    "isprintable translate add discard sort encode hex".split()
)
BARRED_WORDS = (
    "type typing typing_extensions enum Enum IntEnum StrEnum Flag IntFlag Generic Protocol ABC ABCMeta namedtuple "
    "NamedTuple TypedDict TYPE_CHECKING abstractmethod"
).split()
BUILTIN_METHODS = {name for kind in (str, bytes, int, list, tuple, dict, set) for name in dir(kind)}
BARRED_NODES = (
    ast.Global, ast.AsyncFunctionDef, ast.AsyncFor, ast.AsyncWith, ast.Await, ast.Div, ast.MatMult, ast.Import,
)


def own_attributes(trees):
    """Gather the methods that the package defines."""
    classes = [node for tree in trees for node in ast.walk(tree) if isinstance(node, ast.ClassDef)]
    return {part.name for one in classes for part in one.body if isinstance(part, ast.FunctionDef)}


def names_defined(tree):
    """Gather the names that a file defines at its module level, imports left out."""
    names = {row.name for row in tree.body if isinstance(row, (ast.FunctionDef, ast.ClassDef))}
    return names | {target.id for row in tree.body if isinstance(row, ast.Assign) for target in row.targets}


class Language(unittest.TestCase):
    def setUp(self):
        self.texts = {file.name: file.read_text(encoding="utf-8") for file in FILES}
        self.trees = {name: ast.parse(text) for name, text in self.texts.items()}

    def each_node(self, *kinds):
        for name, tree in self.trees.items():
            for node in ast.walk(tree):
                if isinstance(node, kinds):
                    yield f"{name}:{getattr(node, 'lineno', 0)}", node

    def test_l1_l14_files(self):
        self.assertIn("__init__.py", self.texts)
        for file in PACKAGE.iterdir():
            if file.name != "__pycache__":
                self.assertRegex(file.name, r"^(__init__|[a-z][a-z0-9_]*)\.py$")

    def test_l2_l16_imports(self):
        for where, node in self.each_node(ast.ImportFrom):
            self.assertEqual(node.level, 0, where)
            self.assertRegex(node.module, r"^tornrelay\.[a-z_]+$", where)
            defined = names_defined(self.trees[node.module.split(".")[1] + ".py"])
            self.assertLessEqual({one.name for one in node.names}, defined, where)

    def test_l16_no_two_files_import_from_each_other(self):
        imports = {
            name: {row.module.split(".")[1] + ".py" for row in tree.body if isinstance(row, ast.ImportFrom)}
            for name, tree in self.trees.items()
        }
        while imports:
            free = [name for name, needed in imports.items() if not needed & set(imports)]
            self.assertNotEqual(free, [], sorted(imports))
            for name in free:
                del imports[name]

    def test_l3_module_level(self):
        for name, tree in self.trees.items():
            self.assertTrue(ast.get_docstring(tree), name)
            for row in tree.body[1:]:
                self.assertIsInstance(row, (ast.ImportFrom, ast.FunctionDef, ast.ClassDef, ast.Assign), name)

    def test_l3_l15_values_at_module_level(self):
        for name, tree in self.trees.items():
            names = [one.asname or one.name for row in tree.body for one in getattr(row, "names", [])]
            above = set()
            for row in tree.body:
                above |= {row.name} if isinstance(row, ast.FunctionDef) else set()
                names += [row.name] if isinstance(row, (ast.FunctionDef, ast.ClassDef)) else []
                if isinstance(row, ast.Assign):
                    names += [target.id for target in row.targets]
                    used = {node.id for node in ast.walk(row.value) if isinstance(node, ast.Name)}
                    self.assertLessEqual(used, above, f"{name}:{row.lineno}")
            self.assertEqual(sorted(names), sorted(set(names)), name)

    def test_l6_l7_barred_signs(self):
        self.assertEqual([where for where, node in self.each_node(*BARRED_NODES)], [])
        for where, node in self.each_node(ast.Constant):
            self.assertNotIsInstance(node.value, (float, complex), where)

    def test_l8_builtins(self):
        others = set(dir(builtins)) - ALLOWED_BUILTINS
        for where, node in self.each_node(ast.Name):
            self.assertNotIn(node.id, others, where)

    def test_l10_size(self):
        for name, text in self.texts.items():
            rows = text.split("\n")
            self.assertLessEqual(len(rows), 400, name)
            self.assertLessEqual(max(len(row) for row in rows), 120, name)
        for where, node in self.each_node(ast.FunctionDef):
            self.assertLessEqual(node.end_lineno - node.lineno + 1, 40, where)

    def test_l12_names(self):
        for where, node in self.each_node(ast.Name, ast.arg, ast.Attribute, ast.FunctionDef, ast.ClassDef):
            name = getattr(node, "id", None) or getattr(node, "arg", None) or getattr(node, "attr", None) or node.name
            self.assertRegex(name, r"^([A-Za-z][A-Za-z0-9_]*|__[a-z]+__)$", where)

    def test_l14_characters(self):
        for name, text in self.texts.items():
            self.assertRegex(text, r"\A[\n -~]*\Z", name)

    def test_l15_no_local_name_of_a_builtin_or_an_import(self):
        for name, tree in self.trees.items():
            taken = set(dir(builtins))
            for row in tree.body:
                taken |= {one.name for one in getattr(row, "names", [])}
                taken |= {row.name} if isinstance(row, ast.ClassDef) else set()
            for node in ast.walk(tree):
                if isinstance(node, ast.arg):
                    self.assertNotIn(node.arg, taken, name)
                if isinstance(node, ast.Name) and isinstance(node.ctx, ast.Store):
                    self.assertNotIn(node.id, taken, name)

    def test_l17_words(self):
        for name, text in self.texts.items():
            self.assertEqual(re.findall(r"\b(?:" + "|".join(BARRED_WORDS) + r")\b", text), [], name)
            self.assertEqual(re.findall("dataclass|overload|contextmanager", text), [], name)

    def test_l18_no_name_is_a_method_and_an_attribute(self):
        methods = own_attributes(self.trees.values())
        assigned = {node.attr for where, node in self.each_node(ast.Attribute) if isinstance(node.ctx, ast.Store)}
        self.assertEqual(methods & assigned, set())
        called = {id(node.func) for where, node in self.each_node(ast.Call)}
        for where, node in self.each_node(ast.Attribute):
            if id(node) not in called:
                self.assertIn(node.attr, assigned, where)

    def test_l25_methods(self):
        allowed = ALLOWED_METHODS | own_attributes(self.trees.values()) | {"__init__"}
        for where, node in self.each_node(ast.Attribute):
            if node.attr in BUILTIN_METHODS:
                self.assertIn(node.attr, allowed, where)

    def test_l27_percent_sign_and_escapes(self):
        for where, node in self.each_node(ast.Constant):
            if isinstance(node.value, str):
                self.assertNotIn("%", node.value, where)
        for name, text in self.texts.items():
            self.assertEqual(re.findall(r"\\[^nt\\'\"]", text), [], name)


if __name__ == "__main__":
    unittest.main()
