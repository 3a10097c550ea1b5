"""The rules of the language that a program can see, for each file of the package."""

import ast
import builtins
import re
import unittest
from pathlib import Path

FOLDER = Path(__file__).resolve().parent.parent / "shrunkrooms"

LIBRARY = {"heapq": "heappush heappop heapify heapreplace heappushpop".split(),
           "math": "gcd lcm isqrt comb perm factorial".split(),
           "itertools": "product combinations permutations".split()}

ALLOWED = set("""len range enumerate zip min max sum abs sorted reversed int str bool bytes list tuple dict set isinstance ord
    repr any all divmod map iter next object Exception ValueError TypeError KeyError IndexError LookupError ZeroDivisionError
    ArithmeticError OverflowError RuntimeError NotImplementedError AttributeError StopIteration NotImplemented super property
    staticmethod classmethod""".split())

METHODS = set("""append clear copy count endswith extend find get index insert isalnum isalpha isdigit islower isspace isupper
    items join keys ljust lower lstrip partition pop remove replace reverse rfind rjust rpartition rsplit rstrip setdefault
    split splitlines startswith strip update upper values zfill bit_length""".split())

NOWHERE = set("register mro elements open input law version_info with_traceback add_note".split())

SPECIAL = set("""__init__ __eq__ __repr__ __str__ __len__ __enter__ __exit__ __call__ __iter__ __lt__ __le__ __gt__ __ge__
    __ne__ __add__ __sub__ __mul__ __floordiv__ __mod__ __pow__ __and__ __or__ __xor__ __radd__ __rsub__ __rmul__ __neg__
    __pos__ __invert__ __abs__ __bool__ __contains__ __getitem__ __setitem__""".split())

LISTED_WORDS = set("""type typing enum Enum IntEnum StrEnum Flag IntFlag Generic Protocol ABC ABCMeta namedtuple NamedTuple
    TypedDict TYPE_CHECKING abstractmethod""".split())


def files():
    return sorted(FOLDER.glob("*.py"))


def trees():
    return [(path.name, ast.parse(path.read_text())) for path in files()]


def functions(tree):
    return [node for node in ast.walk(tree) if isinstance(node, ast.FunctionDef)]


def bound_in(node):
    """The names that a function binds: parameters, targets, nested functions."""
    found = [arg.arg for inner in ast.walk(node) if isinstance(inner, ast.arguments)
             for arg in inner.args + inner.posonlyargs + inner.kwonlyargs + [inner.vararg, inner.kwarg] if arg is not None]
    found += [inner.name for inner in ast.walk(node) if isinstance(inner, ast.ExceptHandler) and inner.name is not None]
    found += [inner.id for inner in ast.walk(node) if isinstance(inner, ast.Name) and isinstance(inner.ctx, ast.Store)]
    return found


def imports(tree):
    return [(node.module, name.name) for node in tree.body if isinstance(node, ast.ImportFrom) for name in node.names]


def defined(tree):
    found = [node.name for node in tree.body if isinstance(node, (ast.FunctionDef, ast.ClassDef))]
    return found + [node.targets[0].id for node in tree.body if isinstance(node, ast.Assign)]


def docstrings(tree):
    return [id(node.body[0].value) for node in ast.walk(tree)
            if isinstance(node, (ast.Module, ast.ClassDef, ast.FunctionDef)) and node.body
            and isinstance(node.body[0], ast.Expr) and isinstance(node.body[0].value, ast.Constant)]


class Language(unittest.TestCase):
    def test_files(self):
        for path in FOLDER.iterdir():
            if path.name != "__pycache__":
                self.assertRegex(path.name, r"^[a-z_0-9]+\.py$")
        self.assertIn("__init__.py", [path.name for path in files()])
        for path in files():
            text = path.read_text(encoding="utf-8")
            self.assertEqual(re.findall(r"[^ -~\n]", text), [], path.name)
            lines = text.splitlines()
            self.assertLess(len(lines), 400, path.name)
            for line in lines:
                self.assertLessEqual(len(line), 120, path.name)
            for word in ("dataclass", "overload", "contextmanager", "_wall", "_WallAttr"):
                self.assertNotIn(word, text, path.name)

    def test_functions_are_short(self):
        for name, tree in trees():
            for node in functions(tree):
                self.assertLessEqual(node.end_lineno - node.lineno + 1, 40, (name, node.name))

    def test_module_level(self):
        for name, tree in trees():
            for node in tree.body:
                self.assertIsInstance(node, (ast.Expr, ast.ImportFrom, ast.FunctionDef, ast.ClassDef, ast.Assign), name)
                if isinstance(node, ast.Expr):
                    self.assertIs(node, tree.body[0], name)
                if isinstance(node, ast.Assign):
                    self.assert_plain(node, tree, name)
            found = defined(tree) + [told for _, told in imports(tree)]
            self.assertEqual(len(found), len(set(found)), name)

    def assert_plain(self, node, tree, name):
        """What is assigned at module level is a plain value, or a dict of functions that are defined above."""
        self.assertEqual(len(node.targets), 1, name)
        if isinstance(node.value, ast.Dict) and all(isinstance(value, ast.Name) for value in node.value.values):
            above = [other.name for other in tree.body if isinstance(other, ast.FunctionDef) and other.lineno < node.lineno]
            for value in node.value.values:
                self.assertIn(value.id, above, name)
        else:
            value = ast.literal_eval(node.value)
            self.assertIsInstance(value, (int, str, bytes, tuple, list, dict, bool), name)
            if isinstance(value, dict):
                self.assertFalse([part for part in value.values() if isinstance(part, (list, dict))], name)

    def test_imports(self):
        known = {f"shrunkrooms.{name[:-3]}": tree for name, tree in trees()}
        for name, tree in trees():
            self.assertEqual([node for node in ast.walk(tree) if isinstance(node, ast.Import)], [], name)
            self.assertEqual([told.asname for node in tree.body if isinstance(node, ast.ImportFrom) for told in node.names
                              if told.asname is not None], [], name)
            for module, told in imports(tree):
                if module in LIBRARY:
                    self.assertIn(told, LIBRARY[module], name)
                else:
                    self.assertIn(told, defined(known[module]), name)
        ahead = {module: {told for told, _ in imports(tree) if told in known} for module, tree in known.items()}
        while ahead:
            free = [module for module in ahead if not ahead[module]]
            self.assertTrue(free, f"a circle among {sorted(ahead)}")
            ahead = {module: ahead[module] - set(free) for module in ahead if module not in free}

    def test_each_import_is_used(self):
        for name, tree in trees():
            read = {node.id for node in ast.walk(tree) if isinstance(node, ast.Name)}
            self.assertEqual({told for _, told in imports(tree)} - read, set(), name)

    def test_no_name_hides_another(self):
        for name, tree in trees():
            hidden = set(dir(builtins)) | {told for _, told in imports(tree)}
            hidden |= {node.name for node in tree.body if isinstance(node, ast.ClassDef)}
            for node in functions(tree):
                for bound in bound_in(node):
                    self.assertNotIn(bound, hidden - {"_"}, (name, node.name))
                    self.assertNotIn(bound, NOWHERE, (name, node.name))
            for told in defined(tree):
                self.assertNotIn(told, dir(builtins), name)

    def test_names_that_are_read(self):
        for name, tree in trees():
            known = set(defined(tree)) | {told for _, told in imports(tree)} | ALLOWED
            for node in functions(tree):
                known |= set(bound_in(node))
            for node in ast.walk(tree):
                if isinstance(node, ast.Name):
                    self.assertIn(node.id, known, name)
                    self.assertFalse(node.id.startswith("__"), name)

    def test_attributes_and_methods(self):
        own = {node.name for _, tree in trees() for node in functions(tree)}
        for name, tree in trees():
            stored = {node.attr for _, other in trees() for node in ast.walk(other)
                      if isinstance(node, ast.Attribute) and isinstance(node.ctx, ast.Store)}
            for node in ast.walk(tree):
                if isinstance(node, ast.Attribute):
                    self.assertIn(node.attr, METHODS | own | stored, name)
                    self.assertNotIn(node.attr, NOWHERE | {"sort", "format"}, name)
            for node in functions(tree):
                if node.name.startswith("__"):
                    self.assertIn(node.name, SPECIAL, name)

    def test_classes(self):
        shown, stored = [], set()
        for name, tree in trees():
            for node in ast.walk(tree):
                if isinstance(node, ast.Attribute) and isinstance(node.ctx, ast.Store):
                    stored.add(node.attr)
                if isinstance(node, ast.ClassDef):
                    methods = [inner.name for inner in node.body if isinstance(inner, ast.FunctionDef)]
                    self.assertEqual(len(methods), len(set(methods)), name)
                    self.assertEqual("__getitem__" in methods, "__iter__" in methods, name)
                    self.assertEqual(node.decorator_list, [], name)
                    shown += [inner.name for inner in node.body if isinstance(inner, ast.FunctionDef)
                              and [told.id for told in inner.decorator_list if told.id == "property"]]
        # No class stores an attribute that has the name of a property, or `keys` beside `__getitem__`.
        self.assertEqual(set(shown) & stored, set())
        self.assertNotIn("keys", stored)

    def test_statements_and_expressions(self):
        barred = (ast.Global, ast.AsyncFunctionDef, ast.Await, ast.AsyncFor, ast.AsyncWith, ast.GeneratorExp, ast.Div,
                  ast.MatMult, ast.AnnAssign)
        for name, tree in trees():
            texts = docstrings(tree)
            for node in ast.walk(tree):
                self.assertNotIsInstance(node, barred, name)
                if isinstance(node, ast.Constant):
                    self.assertNotIsInstance(node.value, (float, complex), name)
                    if isinstance(node.value, str):
                        self.assertNotIn("%", node.value, name)
                        if id(node) not in texts:
                            self.assertEqual(LISTED_WORDS & set(re.findall(r"\w+", node.value)), set(), name)
                if isinstance(node, ast.Compare):
                    for sign, value in zip(node.ops, node.comparators):
                        if isinstance(sign, (ast.Is, ast.IsNot)):
                            self.assertIsInstance(value, ast.Constant, name)
                if isinstance(node, ast.FunctionDef):
                    self.assertLessEqual({told.id for told in node.decorator_list if isinstance(told, ast.Name)},
                                         {"property", "classmethod", "staticmethod"}, name)
                if isinstance(node, ast.Raise) and node.exc is not None:
                    self.assertIsInstance(node.exc, ast.Call, name)


if __name__ == "__main__":
    unittest.main()
