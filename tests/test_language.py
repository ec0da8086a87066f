"""Some rules of LANGUAGE.md that can be read off the text of the package, and where the interface is defined."""

import ast
import builtins
import pathlib
import re
import unittest
import warnings

import nestedwishes

FOLDER = pathlib.Path(nestedwishes.__file__).parent
BARRED = re.compile(
    r"\b(type|typing|typing_extensions|enum|Enum|IntEnum|StrEnum|Flag|IntFlag|Generic|Protocol|ABC|ABCMeta|namedtuple"
    r"|NamedTuple|TypedDict|TYPE_CHECKING|abstractmethod)\b|dataclass|overload|contextmanager")
BUILTINS = set(
    "len range enumerate zip min max sum abs sorted reversed int str bool bytes list tuple dict set isinstance ord repr "
    "any all divmod iter next property Exception ValueError TypeError KeyError IndexError LookupError ZeroDivisionError "
    "ArithmeticError OverflowError RuntimeError NotImplementedError AttributeError StopIteration NotImplemented".split())
METHODS = set(
    "append clear copy count endswith extend find get index insert isalnum isalpha isdigit islower isspace isupper items "
    "join keys ljust lower lstrip partition pop remove replace reverse rfind rjust rpartition rsplit rstrip setdefault "
    "split splitlines startswith strip update upper values zfill bit_length add discard".split())
INTERFACE = {
    "errors": [
        "WishError", "BadSchema", "BadShape", "NoBase", "NoField", "BadQuestion", "NoPlace", "Unlike", "UnlikeSchemas",
        "BadFlags", "BadStore", "NoThing", "Clash", "Unclear", "TooMany", "BadNumber", "BadName", "NoWatch", "NoText"],
    "schemas": ["Schema"],
    "questions": ["Question"],
    "forms": ["plain", "applies", "pruned", "fixed"],
    "answers": ["Store", "answer", "reads", "Prepared"],
    "alike": ["parted", "alike"],
    "clashes": ["clash", "written"],
    "risings": ["rises", "wipes", "held"],
    "told": ["told", "apart"],
    "sizes": ["greatest", "worst", "final", "settled", "Growth"],
    "server": ["Server", "tried"],
    "texts": ["schema_text", "read_schema", "question_text", "read_question"],
}
CLASSES = {
    ("schemas", "Schema"): [
        "__init__", "__eq__", "__contains__", "kinds", "faces", "unions", "members", "fields", "shape_of", "target", "sure",
        "linked", "with_shape"],
    ("questions", "Question"): [
        "__init__", "__eq__", "__add__", "__len__", "__getitem__", "__contains__", "parts", "flags", "places", "base_at"],
    ("answers", "Store"): ["__init__", "__eq__", "things", "kind_of", "value", "with_value"],
    ("answers", "Prepared"): ["__init__", "__call__"],
    ("sizes", "Growth"): ["__init__", "__call__", "__add__", "__lshift__", "__eq__", "degree"],
    ("server", "Server"): [
        "__init__", "__getitem__", "__setitem__", "__iadd__", "__contains__", "__len__", "__enter__", "__exit__", "drop",
        "snapshot", "ask", "watch", "unwatch", "watched", "changed"],
}


class Rules(unittest.TestCase):
    def setUp(self):
        self.texts = {path.stem: path.read_bytes().decode("ascii") for path in sorted(FOLDER.glob("*.py"))}
        self.trees = {name: ast.parse(text) for name, text in self.texts.items()}

    def nodes(self, *kinds):
        for name, tree in self.trees.items():
            for node in ast.walk(tree):
                if isinstance(node, kinds):
                    yield name, node

    def test_files(self):
        for path in FOLDER.iterdir():
            self.assertTrue(path.suffix == ".py" or path.name == "__pycache__", path)

    def test_sizes_and_characters(self):
        for name, text in self.texts.items():
            lines = text.split("\n")
            self.assertLess(len(lines), 400, name)
            for line in lines:
                self.assertLessEqual(len(line), 120, (name, line))
            self.assertTrue(all(" " <= letter <= "~" or letter == "\n" for letter in text), name)
        for name, node in self.nodes(ast.FunctionDef):
            self.assertLessEqual(node.end_lineno - node.lineno + 1, 40, (name, node.name))

    def test_no_warnings(self):
        with warnings.catch_warnings():
            warnings.simplefilter("error")
            for name, text in self.texts.items():
                compile(text, name, "exec")

    def test_barred_words(self):
        for name, text in self.texts.items():
            self.assertIsNone(BARRED.search(text), name)

    def test_imports(self):
        for name, node in self.nodes(ast.Import, ast.ImportFrom):
            self.assertIsInstance(node, ast.ImportFrom, name)
            self.assertEqual(node.level, 0)
            package, module = node.module.split(".")
            self.assertEqual(package, "nestedwishes")
            defined = set()
            for part in self.trees[module].body:
                if isinstance(part, (ast.FunctionDef, ast.ClassDef)):
                    defined.add(part.name)
                elif isinstance(part, ast.Assign):
                    defined.add(part.targets[0].id)
            for alias in node.names:
                self.assertIn(alias.name, defined)
                self.assertIsNone(alias.asname)

    def test_imports_make_no_circle(self):
        imports = {name: set() for name in self.trees}
        for name, node in self.nodes(ast.ImportFrom):
            imports[name].add(node.module.split(".")[1])
        while imports:
            free = [name for name, used in imports.items() if not used & set(imports)]
            self.assertTrue(free, imports)
            for name in free:
                del imports[name]

    def test_imported_names_are_used(self):
        for name, tree in self.trees.items():
            used = {node.id for node in ast.walk(tree) if isinstance(node, ast.Name)}
            for node in tree.body:
                if isinstance(node, ast.ImportFrom):
                    for alias in node.names:
                        self.assertIn(alias.name, used, name)

    def test_kinds_of_statements_and_values(self):
        for name, node in self.nodes(ast.Global, ast.AsyncFunctionDef, ast.Div):
            self.fail(f"{name}: {ast.dump(node)}")
        for name, node in self.nodes(ast.Constant):
            self.assertNotIsInstance(node.value, (float, complex), name)
            if isinstance(node.value, str):
                self.assertNotIn("%", node.value, name)
        for name, node in self.nodes(ast.Compare):
            for operator, right in zip(node.ops, node.comparators):
                if isinstance(operator, (ast.Is, ast.IsNot)):
                    self.assertIsInstance(right, ast.Constant, name)
                    self.assertTrue(right.value is None or isinstance(right.value, bool), name)

    def test_lists_instead_of_generators(self):
        for name, node in self.nodes(ast.Call):
            if isinstance(node.func, ast.Name) and node.func.id in ("any", "all", "min", "max", "sum", "sorted"):
                self.assertFalse(any(isinstance(part, ast.GeneratorExp) for part in node.args), name)

    def test_nothing_sorts_in_place(self):
        for name, node in self.nodes(ast.Attribute):
            self.assertNotEqual(node.attr, "sort", name)

    def test_names(self):
        for name, node in self.nodes(ast.Name):
            self.assertFalse(node.id.startswith("_"), (name, node.id))
            if isinstance(node.ctx, ast.Store):
                self.assertFalse(hasattr(builtins, node.id), (name, node.id))
            elif hasattr(builtins, node.id):
                self.assertIn(node.id, BUILTINS, name)
        for name, node in self.nodes(ast.arg):
            self.assertFalse(node.arg.startswith("_") or hasattr(builtins, node.arg), (name, node.arg))

    def test_methods_and_attributes_have_unlike_names(self):
        methods, assigned, read = set(), set(), set()
        for _, node in self.nodes(ast.ClassDef):
            methods.update(part.name for part in node.body if isinstance(part, ast.FunctionDef))
        for _, node in self.nodes(ast.Attribute):
            (assigned if isinstance(node.ctx, ast.Store) else read).add(node.attr)
        self.assertEqual(methods & assigned, set())
        self.assertEqual(read - methods - assigned - METHODS, set())

    def test_interface_is_defined_in_its_files(self):
        for module, names in INTERFACE.items():
            tree = self.trees[module]
            defined = [node.name for node in tree.body if isinstance(node, (ast.FunctionDef, ast.ClassDef))]
            for name in names:
                self.assertIn(name, defined)
        for (module, name), methods in CLASSES.items():
            found = [node for node in self.trees[module].body if isinstance(node, ast.ClassDef) and node.name == name]
            defined = [node.name for node in found[0].body if isinstance(node, ast.FunctionDef)]
            for method in methods:
                self.assertIn(method, defined)


if __name__ == "__main__":
    unittest.main()
