"""What can be seen by a plain look of the rules that the package's code keeps to."""

import ast
import builtins
import pathlib
import re
import unittest

PACKAGE = pathlib.Path(__file__).resolve().parent.parent / "ullage"
STATEMENTS = (
    ast.FunctionDef, ast.ClassDef, ast.ImportFrom, ast.Assign, ast.AugAssign, ast.If, ast.While, ast.For,
    ast.Return, ast.Break, ast.Continue, ast.Pass, ast.Raise, ast.Try, ast.Expr,
)
BARRED = (
    ast.SetComp, ast.DictComp, ast.GeneratorExp, ast.NamedExpr, ast.Starred, ast.Await, ast.Yield, ast.YieldFrom,
    ast.Div, ast.MatMult,
)
PYTHONS_OWN = (
    "len range enumerate zip min max sum abs sorted reversed int str bool list tuple dict set frozenset isinstance"
    " ord repr any all divmod ValueError KeyError IndexError LookupError ZeroDivisionError StopIteration"
).split()
BARRED_WORDS = (
    "type typing typing_extensions enum Enum IntEnum StrEnum Flag IntFlag Generic Protocol ABC ABCMeta namedtuple"
    " NamedTuple TypedDict TYPE_CHECKING abstractmethod"
).split()
METHODS = (
    "append clear copy count endswith extend find get index insert isalnum isalpha isdigit islower isspace isupper"
    " items join keys ljust lower lstrip partition pop remove replace reverse rfind rjust rpartition rsplit rstrip"
    " setdefault split splitlines startswith strip update upper values zfill bit_length"
).split()
KEYWORDS = {
    "sorted": ["key", "reverse"], "min": ["key", "default"], "max": ["key", "default"], "sum": ["start"],
    "enumerate": ["start"], "zip": ["strict"],
}
BARRED_NAMES = (
    "register mro elements open input version_info with_traceback add_note attrgetter breakpoint builtins compile"
    " copyright credits delattr dir eval exec exit gc getattr globals hasattr help id importlib license locals"
    " methodcaller os quit setattr super type vars sys print format format_map"
).split()
METHODS_WITH_UNDERSCORES = ("__init__", "__eq__", "__repr__", "__str__", "__len__")


def files():
    return sorted(path for path in PACKAGE.iterdir() if path.name != "__pycache__")


def trees():
    return [(path.name, ast.parse(path.read_text("ascii"))) for path in files()]


def drawn_from(tree):
    return [node.module.split(".")[1] + ".py" for node in tree.body if isinstance(node, ast.ImportFrom)]


def names_imported(tree):
    return {alias.name for node in ast.walk(tree) if isinstance(node, ast.ImportFrom) for alias in node.names}


def names_of_locals(tree):
    """The names of all parameters and of all that is given a value within a function."""
    found = set()
    for one in ast.walk(tree):
        if isinstance(one, (ast.FunctionDef, ast.Lambda)):
            for node in ast.walk(one):
                if isinstance(node, ast.arg):
                    found.add(node.arg)
                elif isinstance(node, ast.Name) and isinstance(node.ctx, ast.Store):
                    found.add(node.id)
                elif isinstance(node, ast.ExceptHandler) and node.name:
                    found.add(node.name)
    return found


def names_bound(tree):
    bound = set()
    for node in ast.walk(tree):
        if isinstance(node, (ast.FunctionDef, ast.ClassDef)):
            bound.add(node.name)
        elif isinstance(node, ast.arg):
            bound.add(node.arg)
        elif isinstance(node, ast.alias):
            bound.add(node.asname or node.name)
        elif isinstance(node, ast.ExceptHandler) and node.name:
            bound.add(node.name)
        elif isinstance(node, ast.Name) and isinstance(node.ctx, ast.Store):
            bound.add(node.id)
    return bound


def methods_and_values():
    """The names of all methods of the package's classes, and of all values that their objects are given."""
    methods, values = set(), set()
    for name, tree in trees():
        for node in ast.walk(tree):
            if isinstance(node, ast.ClassDef):
                methods |= {one.name for one in node.body if isinstance(one, ast.FunctionDef)}
            elif isinstance(node, ast.Attribute) and isinstance(node.ctx, ast.Store):
                values.add(node.attr)
    return methods, values


class Language(unittest.TestCase):
    def test_the_package_holds_python_files_alone(self):
        self.assertIn("__init__.py", [path.name for path in files()])
        for path in files():
            self.assertTrue(path.is_file() and re.fullmatch(r"__init__\.py|[a-z][a-z0-9_]*\.py", path.name), path)

    def test_signs_and_sizes(self):
        for path in files():
            text = path.read_text("utf-8")
            self.assertRegex(text, r"\A[\n -~]*\Z", path)
            lines = text.splitlines()
            self.assertLessEqual(len(lines), 400, path)
            self.assertLessEqual(max(len(line) for line in lines), 120, path)
            for node in ast.walk(ast.parse(text)):
                if isinstance(node, ast.FunctionDef):
                    self.assertLessEqual(node.end_lineno - node.lineno + 1, 40, (path, node.name))

    def test_barred_words_stand_nowhere(self):
        for path in files():
            text = path.read_text("ascii")
            words = set(re.findall(r"\w+", text))
            self.assertEqual(sorted(words & set(BARRED_WORDS)), [], path)
            self.assertNotRegex(text, "dataclass|overload|contextmanager", path)

    def test_imports_are_the_packages_own(self):
        for name, tree in trees():
            for node in ast.walk(tree):
                self.assertNotIsInstance(node, ast.Import, name)
                if isinstance(node, ast.ImportFrom):
                    self.assertIn(node, tree.body, name)
                    self.assertEqual(node.level, 0, name)
                    self.assertRegex(node.module, r"\Aullage\.[a-z0-9_]+\Z", name)
                    self.assertTrue((PACKAGE / (node.module.split(".")[1] + ".py")).is_file(), node.module)
                    self.assertNotIn("*", [alias.name for alias in node.names], name)

    def test_statements_and_expressions(self):
        for name, tree in trees():
            for node in ast.walk(tree):
                where = (name, getattr(node, "lineno", None))
                if isinstance(node, ast.stmt):
                    self.assertIsInstance(node, STATEMENTS, where)
                self.assertNotIsInstance(node, BARRED, where)
                if isinstance(node, (ast.FunctionDef, ast.ClassDef)):
                    self.assertEqual(node.decorator_list, [], where)
                if isinstance(node, (ast.For, ast.While)):
                    self.assertEqual(node.orelse, [], where)
                if isinstance(node, ast.Assign):
                    self.assertEqual(len(node.targets), 1, where)
                if isinstance(node, ast.Constant):
                    self.assertNotIsInstance(node.value, (float, complex, bytes), where)

    def test_powers_have_a_written_exponent(self):
        for name, tree in trees():
            for node in ast.walk(tree):
                if isinstance(node, ast.BinOp) and isinstance(node.op, ast.Pow):
                    self.assertIsInstance(node.right, ast.Constant, (name, node.lineno))

    def test_names(self):
        for name, tree in trees():
            bound = names_bound(tree)
            for word in bound:
                self.assertTrue(word in METHODS_WITH_UNDERSCORES or not word.startswith("_"), (name, word))
            self.assertEqual(sorted(bound & set(PYTHONS_OWN)), [], name)
            read = {node.id for node in ast.walk(tree) if isinstance(node, ast.Name)}
            self.assertEqual(sorted(read - bound - set(PYTHONS_OWN)), [], name)

    def test_locals_have_names_of_their_own(self):
        for name, tree in trees():
            classes = {node.name for node in ast.walk(tree) if isinstance(node, ast.ClassDef)}
            taken = names_imported(tree) | classes | set(dir(builtins))
            self.assertEqual(sorted(names_of_locals(tree) & taken), [], name)

    def test_no_two_files_draw_from_one_another(self):
        drawn = {name: drawn_from(tree) for name, tree in trees()}
        while drawn:
            free = [name for name in drawn if not set(drawn[name]) & set(drawn)]
            self.assertNotEqual(free, [], drawn)
            for name in free:
                drawn.pop(name)

    def test_names_are_drawn_from_the_files_that_define_them_and_are_used(self):
        for name, tree in trees():
            read = {node.id for node in ast.walk(tree) if isinstance(node, ast.Name)}
            self.assertEqual(sorted(names_imported(tree) - read), [], name)
            for node in tree.body:
                if isinstance(node, ast.ImportFrom):
                    source = ast.parse((PACKAGE / (node.module.split(".")[1] + ".py")).read_text("ascii"))
                    defined = names_bound(source) - names_imported(source)
                    self.assertEqual(sorted({alias.name for alias in node.names} - defined), [], name)

    def test_is_stands_beside_none_true_and_false(self):
        for name, tree in trees():
            for node in ast.walk(tree):
                if isinstance(node, ast.Compare) and isinstance(node.ops[0], (ast.Is, ast.IsNot)):
                    self.assertIn(ast.unparse(node.comparators[0]), ("None", "True", "False"), (name, node.lineno))

    def test_methods_and_keywords(self):
        own = {node.name for name, tree in trees() for node in ast.walk(tree) if isinstance(node, ast.FunctionDef)}
        for name, tree in trees():
            for node in ast.walk(tree):
                if isinstance(node, ast.Call):
                    if isinstance(node.func, ast.Attribute):
                        self.assertIn(node.func.attr, set(METHODS) | own, (name, node.lineno))
                    called = node.func.id if isinstance(node.func, ast.Name) else None
                    for keyword in node.keywords:
                        self.assertIn(keyword.arg, KEYWORDS.get(called, []), (name, node.lineno))

    def test_methods_and_values_of_objects(self):
        methods, values = methods_and_values()
        self.assertEqual(sorted(methods & values), [])
        taken = {word for kind in (str, int, list, tuple, dict, set, bytes, ValueError) for word in dir(kind)}
        self.assertEqual(sorted((methods - set(METHODS_WITH_UNDERSCORES) | values) & taken), [])
        for name, tree in trees():
            for node in ast.walk(tree):
                if isinstance(node, ast.Attribute):
                    self.assertIn(node.attr, methods | values | set(METHODS), (name, node.lineno))

    def test_classes_stand_at_the_top_with_methods_alone(self):
        for name, tree in trees():
            for node in ast.walk(tree):
                if isinstance(node, ast.ClassDef):
                    self.assertIn(node, tree.body, name)
                    self.assertLessEqual(len(node.bases), 1, name)
                    for one in node.body:
                        self.assertIsInstance(one, (ast.FunctionDef, ast.Pass), (name, one.lineno))

    def test_a_name_is_bound_once_at_the_top(self):
        for name, tree in trees():
            bound = []
            for node in tree.body:
                if isinstance(node, (ast.FunctionDef, ast.ClassDef)):
                    bound.append(node.name)
                elif isinstance(node, ast.ImportFrom):
                    bound += [alias.name for alias in node.names]
                elif isinstance(node, ast.Assign):
                    bound.append(node.targets[0].id)
                else:
                    self.assertIs(node, tree.body[0], (name, node.lineno))
            self.assertEqual(len(bound), len(set(bound)), name)

    def test_barred_names(self):
        for name, tree in trees():
            used = names_bound(tree) | {node.attr for node in ast.walk(tree) if isinstance(node, ast.Attribute)}
            used |= {node.id for node in ast.walk(tree) if isinstance(node, ast.Name)}
            self.assertEqual(sorted(used & set(BARRED_NAMES)), [], name)

    def test_errors_are_made_on_the_spot_and_taken_by_name(self):
        own = {node.name for node in ast.walk(dict(trees())["errors.py"]) if isinstance(node, ast.ClassDef)}
        for name, tree in trees():
            for node in ast.walk(tree):
                if isinstance(node, ast.Raise):
                    self.assertIn(node.exc.func.id, own, (name, node.lineno))
                if isinstance(node, ast.ExceptHandler):
                    self.assertIn(node.type.id, own, (name, node.lineno))

    def test_texts_are_free_of_the_percent_sign(self):
        for name, tree in trees():
            for node in ast.walk(tree):
                if isinstance(node, ast.Constant) and isinstance(node.value, str):
                    self.assertNotIn("%", node.value, (name, node.lineno))


if __name__ == "__main__":
    unittest.main()
