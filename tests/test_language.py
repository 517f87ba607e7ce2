"""The rules of LANGUAGE.md that can be seen in the package's files without running them."""

import ast
import pathlib
import re
import unittest

PACKAGE = pathlib.Path(__file__).resolve().parent.parent / "heapfriends"
FILES = sorted(PACKAGE.glob("*.py"))

BUILTINS = set(
    "len range enumerate zip min max sum abs sorted reversed int str bool list tuple dict set isinstance ord repr "
    "any all divmod Exception ValueError TypeError KeyError IndexError LookupError ZeroDivisionError "
    "ArithmeticError OverflowError RuntimeError NotImplementedError".split()
)
METHODS = set(
    "append clear copy count endswith extend find get index insert isalnum isalpha isdigit islower isspace isupper "
    "items join keys ljust lower lstrip partition pop remove replace reverse rfind rjust rpartition rsplit rstrip "
    "setdefault split splitlines startswith strip update upper values zfill bit_length".split()
)
BARRED_WORDS = (
    "type|typing|typing_extensions|enum|Enum|IntEnum|StrEnum|Flag|IntFlag|Generic|Protocol|ABC|ABCMeta|namedtuple|"
    "NamedTuple|TypedDict|TYPE_CHECKING|abstractmethod"
)
STATEMENTS = (
    ast.FunctionDef, ast.ClassDef, ast.Return, ast.Delete, ast.Assign, ast.AugAssign, ast.For, ast.While, ast.If,
    ast.Raise, ast.Try, ast.With, ast.Assert, ast.ImportFrom, ast.Nonlocal, ast.Expr, ast.Pass, ast.Break, ast.Continue,
)


def trees():
    for path in FILES:
        yield path, ast.parse(path.read_text(encoding="ascii"))


def nodes(kind):
    for path, tree in trees():
        for node in ast.walk(tree):
            if isinstance(node, kind):
                yield path, node


def functions():
    return nodes(ast.FunctionDef)


def module_names(tree):
    names = []
    for row in tree.body:
        if isinstance(row, (ast.FunctionDef, ast.ClassDef)):
            names.append(row.name)
        elif isinstance(row, ast.ImportFrom):
            names += [alias.asname or alias.name for alias in row.names]
        elif isinstance(row, ast.Assign):
            names += [target.id for target in row.targets]
    return names


class Files(unittest.TestCase):
    def test_only_plain_files(self):
        for path in PACKAGE.iterdir():
            if path.name != "__pycache__":
                self.assertRegex(path.name, r"^([a-z][a-z0-9_]*|__init__|__main__)\.py$")

    def test_signs_and_sizes(self):
        for path in FILES:
            text = path.read_text(encoding="ascii")
            self.assertRegex(text, r"\A[\n -~]*\Z")
            self.assertNotIn("%", text)
            rows = text.splitlines()
            self.assertLessEqual(len(rows), 400)
            self.assertLessEqual(max(map(len, rows)), 120)

    def test_barred_words(self):
        for path in FILES:
            text = path.read_text(encoding="ascii")
            self.assertIsNone(re.search(rf"\b({BARRED_WORDS})\b|dataclass|overload|contextmanager", text), path)


class Names(unittest.TestCase):
    def test_bound_once_at_module_level(self):
        for path, tree in trees():
            names = module_names(tree)
            self.assertEqual(len(names), len(set(names)), path)

    def test_local_names_hide_nothing(self):
        for path, tree in trees():
            hidden = set(dir(__builtins__) if not isinstance(__builtins__, dict) else __builtins__)
            hidden |= set(module_names(tree))
            local = [node.arg for node in ast.walk(tree) if isinstance(node, ast.arg)]
            local += [
                node.id for function in tree.body if isinstance(function, (ast.FunctionDef, ast.ClassDef))
                for node in ast.walk(function) if isinstance(node, ast.Name) and isinstance(node.ctx, ast.Store)
            ]
            self.assertEqual([name for name in local if name in hidden or name.startswith("_")], [], path)

    def test_only_known_names_are_read(self):
        for path, tree in trees():
            known = BUILTINS | set(module_names(tree))
            known |= {node.arg for node in ast.walk(tree) if isinstance(node, ast.arg)}
            stored = [node for node in ast.walk(tree) if isinstance(node, ast.Name)]
            known |= {node.id for node in stored if isinstance(node.ctx, ast.Store)}
            self.assertEqual([node.id for node in stored if node.id not in known], [], path)


class Statements(unittest.TestCase):
    def test_imports(self):
        for path, node in nodes((ast.Import, ast.ImportFrom)):
            self.assertIsInstance(node, ast.ImportFrom)
            self.assertEqual(node.level, 0)
            self.assertRegex(node.module, r"^heapfriends\.[a-z]+$")
            defined = module_names(ast.parse((PACKAGE / (node.module.split(".")[1] + ".py")).read_text()))
            for alias in node.names:
                self.assertIn(alias.name, defined, path)

    def test_no_two_files_import_from_each_other(self):
        wanted = {path.stem: set() for path in FILES}
        for path, node in nodes(ast.ImportFrom):
            wanted[path.stem].add(node.module.split(".")[1])
        while wanted:
            free = [name for name in wanted if not wanted[name] & set(wanted)]
            self.assertNotEqual(free, [])
            for name in free:
                del wanted[name]

    def test_kinds_of_statements(self):
        for path, node in nodes(ast.stmt):
            self.assertIsInstance(node, STATEMENTS, (path, node.lineno))

    def test_short_functions(self):
        for path, node in functions():
            self.assertLessEqual(node.end_lineno - node.lineno + 1, 40, (path, node.name))
            self.assertEqual(node.args.posonlyargs, [])

    def test_no_two_lambdas_on_one_line(self):
        lines = [(path, node.lineno) for path, node in nodes(ast.Lambda)]
        self.assertEqual(len(lines), len(set(lines)))

    def test_methods_of_builtin_values(self):
        own = {node.name for _, node in functions()}
        for path, node in nodes(ast.Call):
            if isinstance(node.func, ast.Attribute) and node.func.attr != "__init__":
                self.assertIn(node.func.attr, METHODS | own, (path, node.lineno))

    def test_no_division_floats_or_generators(self):
        for path, node in nodes((ast.Div, ast.GeneratorExp, ast.Global, ast.Yield)):
            self.fail((path, node))
        for path, node in nodes(ast.Constant):
            self.assertNotIsInstance(node.value, (float, complex), (path, node.lineno))


def attributes_of(node):
    """The names that a class assigns as attributes of its objects."""
    return {
        each.attr for each in ast.walk(node) if isinstance(each, ast.Attribute) and isinstance(each.ctx, ast.Store)
    }


class Classes(unittest.TestCase):
    def test_no_method_has_the_name_of_an_attribute(self):
        classes = [node for _, node in nodes(ast.ClassDef)]
        methods = {row.name for node in classes for row in node.body if isinstance(row, ast.FunctionDef)}
        attributes = set().union(*map(attributes_of, classes))
        self.assertEqual(methods & attributes, set())
        self.assertEqual(attributes & set("items keys values pop update append clear extend insert remove reverse "
                                          "setdefault sort args encode decode hex fromhex format".split()), set())

    def test_double_underscore_methods(self):
        allowed = {"__init__", "__eq__", "__repr__", "__len__", "__enter__", "__exit__"}
        for path, node in functions():
            if node.name.startswith("_"):
                self.assertIn(node.name, allowed, path)

    def test_no_sets_are_put_to_where_a_class_has_add(self):
        for path, node in nodes(ast.Call):
            if isinstance(node.func, ast.Attribute):
                self.assertNotIn(node.func.attr, ("sort", "discard"), (path, node.lineno))
                if node.func.attr == "add":
                    self.assertEqual(ast.unparse(node.func.value), "pile", (path, node.lineno))

    def test_only_own_refusals_are_caught(self):
        refusals = {node.name for path, node in nodes(ast.ClassDef) if path.name == "errors.py"}
        for path, node in nodes(ast.ExceptHandler):
            self.assertIsInstance(node.type, ast.Name)
            self.assertIn(node.type.id, refusals, (path, node.lineno))

    def test_is_stands_by_none_only(self):
        for path, node in nodes(ast.Compare):
            for sign, right in zip(node.ops, node.comparators):
                if isinstance(sign, (ast.Is, ast.IsNot)):
                    self.assertIn(ast.unparse(right), ("None", "True", "False"), (path, node.lineno))


if __name__ == "__main__":
    unittest.main()
