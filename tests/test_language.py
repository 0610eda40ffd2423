"""The plainest rules for the files of the package, looked up in their text."""

import ast
import builtins
import os
import re
import unittest

ROOT = os.path.dirname(os.path.dirname(os.path.abspath(__file__)))
PACKAGE = os.path.join(ROOT, "handedworld")
BUILTINS = set(
    "len range enumerate zip min max sum abs sorted reversed int str bool bytes list tuple dict set frozenset isinstance "
    "ord repr any all divmod pow property classmethod staticmethod Exception ValueError TypeError KeyError IndexError "
    "LookupError ZeroDivisionError ArithmeticError OverflowError RuntimeError NotImplementedError AttributeError "
    "StopIteration NotImplemented".split()
)
METHODS = set(
    "append clear copy count endswith extend find get index insert isalnum isalpha isdigit islower isspace isupper items "
    "join keys ljust lower lstrip partition pop remove replace reverse rfind rjust rpartition rsplit rstrip setdefault "
    "split splitlines startswith strip update upper values zfill bit_length".split()
)
SPECIAL = set(
    "__init__ __eq__ __repr__ __str__ __len__ __iter__ __getitem__ __contains__ __add__ __call__ __enter__ __exit__".split()
)
BANNED = set(
    "type typing typing_extensions enum Enum IntEnum StrEnum Flag IntFlag Generic Protocol ABC ABCMeta namedtuple "
    "NamedTuple TypedDict TYPE_CHECKING abstractmethod".split()
)
NAMES = set(
    "register mro elements open input law version_info with_traceback add_note attrgetter breakpoint compile copyright "
    "credits delattr dir eval exec exit gc getattr globals hasattr help id importlib license locals methodcaller os quit "
    "setattr super type vars sys".split()
)
STATEMENTS = (
    ast.Assign, ast.AugAssign, ast.If, ast.While, ast.For, ast.Return, ast.Break, ast.Continue, ast.Pass, ast.Raise,
    ast.Delete, ast.Expr, ast.FunctionDef, ast.ClassDef, ast.ImportFrom, ast.Try, ast.With,
)


def files():
    """The paths of all files of the package."""
    found = []
    for folder, below, names in os.walk(PACKAGE):
        below[:] = [one for one in below if one != "__pycache__"]
        found += [os.path.join(folder, name) for name in names]
    return sorted(found)


def parsed():
    """The files with their texts and trees."""
    for path in files():
        with open(path, encoding="utf-8") as source:
            text = source.read()
        yield os.path.relpath(path, ROOT), text, ast.parse(text)


def bound_names(tree):
    """All names that a file gives to something, without those of methods and attributes."""
    found = []
    for node in ast.walk(tree):
        if isinstance(node, ast.arg):
            found.append(node.arg)
        if isinstance(node, ast.Name) and not isinstance(node.ctx, ast.Load):
            found.append(node.id)
    return found


class Language(unittest.TestCase):
    def test_files(self):
        self.assertLessEqual(len(files()), 100)
        for path in files():
            self.assertRegex(os.path.relpath(path, PACKAGE), r"^([a-z_]+/)*[a-z_]+\.py$")
        for folder, below, names in os.walk(PACKAGE):
            if not folder.endswith("__pycache__"):
                self.assertIn("__init__.py", names)

    def test_sizes_and_signs(self):
        for path, text, tree in parsed():
            lines = text.split("\n")
            self.assertLessEqual(len(lines) - 1, 399, path)
            self.assertTrue(all(len(line) <= 120 for line in lines), path)
            self.assertTrue(all(" " <= sign <= "~" or sign == "\n" for sign in text), path)
            for node in ast.walk(tree):
                if isinstance(node, ast.FunctionDef):
                    self.assertLessEqual(node.end_lineno - node.lineno + 1, 40, (path, node.name))

    def test_imports(self):
        edges = {}
        for path, text, tree in parsed():
            module = path[:-3].replace("/", ".")
            edges[module] = []
            for node in ast.walk(tree):
                self.assertNotIsInstance(node, ast.Import, path)
                if isinstance(node, ast.ImportFrom):
                    self.assertIn(node, tree.body)
                    self.assertTrue(node.module.startswith("handedworld.") and node.level == 0, path)
                    edges[module].append(node.module)
                    with open(os.path.join(ROOT, node.module.replace(".", "/") + ".py"), encoding="utf-8") as source:
                        there = ast.parse(source.read())
                    names = {one.name for one in there.body if isinstance(one, (ast.FunctionDef, ast.ClassDef))}
                    names |= {one.targets[0].id for one in there.body if isinstance(one, ast.Assign)}
                    used = {one.id for one in ast.walk(tree) if isinstance(one, ast.Name)}
                    for one in node.names:
                        self.assertIsNone(one.asname)
                        self.assertIn(one.name, names, (path, node.module))
                        self.assertIn(one.name, used, path)
        settled = set()
        while len(settled) < len(edges):
            more = {one for one in edges if one not in settled and set(edges[one]) <= settled}
            self.assertTrue(more, "modules import from each other")
            settled |= more

    def test_statements_and_expressions(self):
        for path, text, tree in parsed():
            for node in ast.walk(tree):
                if isinstance(node, ast.stmt):
                    self.assertIsInstance(node, STATEMENTS, (path, node.lineno))
                self.assertNotIsInstance(node, (ast.GeneratorExp, ast.Div, ast.Lambda, ast.Mod, ast.NamedExpr), path)
                if isinstance(node, ast.Constant):
                    self.assertNotIsInstance(node.value, (float, complex, bytes), path)
                    if isinstance(node.value, str):
                        self.assertNotIn("\\", node.value)
                        self.assertNotIn("%", node.value)
                if isinstance(node, ast.FunctionDef):
                    marks = [one.id for one in node.decorator_list]
                    self.assertTrue(set(marks) <= {"property", "classmethod", "staticmethod"} and len(marks) < 2)

    def test_handlers(self):
        """Only own errors are caught, each by its name."""
        for path, text, tree in parsed():
            own = {one.name for one in tree.body if isinstance(one, ast.ClassDef)}
            own |= {name.name for node in tree.body if isinstance(node, ast.ImportFrom) for name in node.names}
            for node in ast.walk(tree):
                if isinstance(node, ast.ExceptHandler):
                    self.assertIsInstance(node.type, ast.Name, path)
                    self.assertIn(node.type.id, own, path)
                if isinstance(node, ast.Try):
                    self.assertEqual(node.finalbody, [], path)

    def test_exits_of_blocks(self):
        """Behind a block attributes are assigned, and nothing else is done."""
        for path, text, tree in parsed():
            for node in ast.walk(tree):
                if isinstance(node, ast.FunctionDef) and node.name == "__exit__":
                    self.assertEqual([one.arg for one in node.args.args], ["self", "kind", "value", "trace"])
                    self.assertEqual(ast.unparse(node.body[0]), "desk = self.desk")
                    for one in node.body[1:]:
                        self.assertIsInstance(one, ast.Assign)
                        self.assertIsInstance(one.value, ast.Attribute)
                        self.assertEqual(one.value.value.id, "self")

    def test_what_operators_run(self):
        """What adding to a ride runs changes nothing but attributes of objects that it just made."""
        paths = ["handedworld/signals/rides.py", "handedworld/signals/moves.py", "handedworld/signals/charts.py"]
        for path, text, tree in parsed():
            for node in ast.walk(tree):
                if path in paths:
                    self.assertNotIsInstance(node, (ast.AugAssign, ast.Delete), path)
                    if isinstance(node, (ast.Attribute, ast.Subscript)) and isinstance(node.ctx, ast.Store):
                        self.assertIn(ast.unparse(node.value), ("self", "opened", "after"), path)
                    if isinstance(node, ast.Call) and isinstance(node.func, ast.Attribute):
                        self.assertIn(ast.unparse(node.func), ("Program.of", "Route(modes, chart).procedures_made"), path)

    def test_module_level(self):
        for path, text, tree in parsed():
            for node in tree.body:
                if isinstance(node, ast.Expr):
                    self.assertIsInstance(node.value, ast.Constant)
                else:
                    self.assertIsInstance(node, (ast.ImportFrom, ast.FunctionDef, ast.ClassDef, ast.Assign))
            self.assertIsNotNone(ast.get_docstring(tree), path)

    def test_docstrings(self):
        for path, text, tree in parsed():
            for node in ast.walk(tree):
                if isinstance(node, (ast.FunctionDef, ast.ClassDef)) and not node.name.startswith("__"):
                    self.assertIsNotNone(ast.get_docstring(node), (path, node.name))

    def test_names(self):
        for path, text, tree in parsed():
            own = {one.name for one in tree.body if isinstance(one, ast.ClassDef)}
            imports = {name.name for node in tree.body if isinstance(node, ast.ImportFrom) for name in node.names}
            top = [one.name for one in tree.body if isinstance(one, (ast.FunctionDef, ast.ClassDef))]
            top += [one.targets[0].id for one in tree.body if isinstance(one, ast.Assign)]
            self.assertEqual(len(set(top)), len(top), path)
            self.assertFalse(set(top) & imports, path)
            for name in bound_names(tree) + top:
                self.assertFalse(hasattr(builtins, name), (path, name))
                self.assertNotIn(name, NAMES, path)
                self.assertFalse(name in imports or name in own and name not in top, (path, name))
            for node in ast.walk(tree):
                if isinstance(node, ast.Name) and isinstance(node.ctx, ast.Load) and hasattr(builtins, node.id):
                    self.assertIn(node.id, BUILTINS, path)
                if isinstance(node, ast.FunctionDef) and node.name.startswith("__"):
                    self.assertIn(node.name, SPECIAL, path)
            self.assertFalse(set(re.findall(r"[A-Za-z_]+", self.without_docstrings(tree))) & BANNED, path)

    def without_docstrings(self, tree):
        """The text of a file without its docstrings and comments."""
        tree = ast.parse(ast.unparse(tree))
        for node in ast.walk(tree):
            if isinstance(node, (ast.Module, ast.FunctionDef, ast.ClassDef)) and ast.get_docstring(node) is not None:
                node.body = node.body[1:] or [ast.Pass()]
        return ast.unparse(tree)

    def test_methods_that_are_called(self):
        own = set()
        for path, text, tree in parsed():
            for node in ast.walk(tree):
                if isinstance(node, ast.ClassDef):
                    own |= {one.name for one in node.body if isinstance(one, ast.FunctionDef)}
        for path, text, tree in parsed():
            for node in ast.walk(tree):
                if isinstance(node, ast.Call) and isinstance(node.func, ast.Attribute):
                    self.assertIn(node.func.attr, own | METHODS, (path, node.lineno))

    def test_attributes_and_properties(self):
        properties, methods, attributes = set(), set(), set()
        for path, text, tree in parsed():
            for node in ast.walk(tree):
                if isinstance(node, ast.ClassDef):
                    for one in node.body:
                        if isinstance(one, ast.FunctionDef):
                            marks = [mark.id for mark in one.decorator_list]
                            (properties if "property" in marks else methods).add(one.name)
                if isinstance(node, ast.Attribute) and isinstance(node.ctx, ast.Store):
                    attributes.add(node.attr)
        self.assertFalse(properties & methods)
        self.assertFalse(properties & attributes)
        self.assertFalse(methods & attributes)
        self.assertFalse((properties | attributes) & METHODS)

    def test_sets(self):
        for path, text, tree in parsed():
            within = set()
            for node in ast.walk(tree):
                if isinstance(node, ast.Call) and isinstance(node.func, ast.Name) and node.func.id in ("len", "sorted"):
                    within |= {id(one) for one in node.args}
            for node in ast.walk(tree):
                is_set = isinstance(node, (ast.Set, ast.SetComp))
                is_set = is_set or isinstance(node, ast.Call) and isinstance(node.func, ast.Name) and node.func.id == "set"
                if is_set:
                    self.assertIn(id(node), within, (path, node.lineno))


if __name__ == "__main__":
    unittest.main()
