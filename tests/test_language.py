"""Looks at the form of the package's code: the rules that are easily broken by mistake."""

import ast
import builtins
import unittest
from pathlib import Path

PACKAGE = Path(__file__).resolve().parent.parent / "sixthrows"
FILES = sorted(PACKAGE.rglob("*.py"))
LIBRARY = {
    "heapq": "heappush heappop heapify heapreplace heappushpop",
    "math": "gcd lcm isqrt comb perm factorial",
    "itertools": "product combinations permutations chain accumulate pairwise islice zip_longest",
    "collections": "defaultdict deque",
    "__future__": "annotations",
}
BUILTINS = """len range enumerate zip min max sum abs sorted reversed int str bool bytes list tuple dict set
    isinstance ord repr any all divmod pow iter next map Exception ValueError TypeError KeyError IndexError
    LookupError ZeroDivisionError ArithmeticError OverflowError RuntimeError NotImplementedError
    AttributeError StopIteration NotImplemented super property staticmethod classmethod""".split()
METHODS = """append clear copy count endswith extend find get index insert isalnum isalpha isdigit islower
    isspace isupper items join keys ljust lower lstrip partition pop remove replace reverse rfind rjust
    rpartition rsplit rstrip setdefault split splitlines startswith strip update upper values zfill
    bit_length swapcase isascii isdecimal removeprefix removesuffix rindex add discard appendleft popleft
    rotate extendleft __init__""".split()
SPECIAL = """__init__ __eq__ __repr__ __str__ __len__ __enter__ __exit__ __call__ __iter__ __lt__ __le__ __gt__
    __ge__ __ne__ __contains__ __getitem__ __setitem__ __bool__""".split()
# The package has a class with __eq__, so these take a list there.
WITHOUT_GENERATORS = "any all min max sum sorted".split()


def nodes(kind):
    for path in FILES:
        for node in ast.walk(ast.parse(path.read_text(encoding="utf-8"))):
            if isinstance(node, kind):
                yield path.name, node

CHANGING = "append extend insert pop remove clear update setdefault reverse sort add discard".split()


def functions_by_name():
    """All functions and methods of the package, by name; several may have one."""
    found = {}
    for _, node in nodes(ast.FunctionDef):
        found.setdefault(node.name, []).append(node)
    return found


def behind_operators():
    """The functions that run where an operator or a property does."""
    known = functions_by_name()
    fresh = known["__contains__"] + known["__len__"] + known["__eq__"]
    fresh += [node for named in known.values() for node in named if node.decorator_list]
    found = []
    while fresh:
        function = fresh.pop()
        found.append(function)
        for node in ast.walk(function):
            if isinstance(node, ast.Call):
                name = node.func.attr if isinstance(node.func, ast.Attribute) else node.func.id
                fresh += [one for one in known.get(name, []) if one not in found and one not in fresh]
    return found


def is_new(value):
    """Whether an expression makes a list or a dict."""
    call = isinstance(value, ast.Call) and isinstance(value.func, ast.Name) and value.func.id in ("list", "dict")
    return call or isinstance(value, (ast.List, ast.Dict, ast.ListComp, ast.DictComp))


class TestFiles(unittest.TestCase):
    def test_only_plain_files(self):
        self.assertIn(PACKAGE / "__init__.py", FILES)
        for path in PACKAGE.rglob("*"):
            if "__pycache__" not in path.parts:
                self.assertEqual(path.suffix, ".py", path)
                self.assertRegex(path.stem, r"\A[a-z0-9_]+\Z")
                self.assertFalse(path.stem.startswith("test"), path)

    def test_characters_and_lines(self):
        for path in FILES:
            text = path.read_bytes().decode("ascii")
            self.assertTrue(all(char == "\n" or " " <= char <= "~" for char in text), path)
            lines = text.split("\n")
            self.assertLessEqual(len(lines), 399, path)
            self.assertLessEqual(max(map(len, lines)), 120, path)

    def test_functions_are_small(self):
        for name, node in nodes(ast.FunctionDef):
            self.assertLessEqual(node.end_lineno - node.lineno + 1, 40, (name, node.name))


class TestCode(unittest.TestCase):
    def test_imports(self):
        for name, node in nodes(ast.Import):
            self.assertEqual(name, "__main__.py")
        for name, node in nodes(ast.ImportFrom):
            with self.subTest(file=name, line=node.lineno):
                self.assertEqual(node.level, 0)
                if not node.module.startswith("sixthrows."):
                    for alias in node.names:
                        self.assertIsNone(alias.asname)
                        self.assertIn(alias.name, LIBRARY[node.module].split())

    def test_module_level(self):
        allowed = (ast.ImportFrom, ast.FunctionDef, ast.ClassDef, ast.Assign)
        for path in FILES:
            first, *others = ast.parse(path.read_text(encoding="utf-8")).body
            self.assertIsInstance(first.value, ast.Constant, path)
            for node in others:
                self.assertIsInstance(node, allowed, (path, node.lineno))

    def test_builtins(self):
        for name, node in nodes(ast.Name):
            if node.id in vars(builtins):
                self.assertIn(node.id, BUILTINS, (name, node.lineno))
                self.assertIsInstance(node.ctx, ast.Load, (name, node.lineno))
        for name, node in nodes((ast.arg, ast.FunctionDef, ast.ClassDef)):
            own = node.arg if isinstance(node, ast.arg) else node.name
            self.assertNotIn(own, vars(builtins), (name, node.lineno))

    def test_names_are_no_imports_and_no_classes(self):
        for path in FILES:
            tree = list(ast.walk(ast.parse(path.read_text(encoding="utf-8"))))
            taken = {node.name for node in tree if isinstance(node, ast.ClassDef)}
            taken |= {alias.name for node in tree if isinstance(node, ast.ImportFrom) for alias in node.names}
            for node in tree:
                if isinstance(node, ast.arg):
                    self.assertNotIn(node.arg, taken, (path.name, node.lineno))
                if isinstance(node, ast.FunctionDef):
                    self.assertNotIn(node.name, taken, (path.name, node.lineno))
                if isinstance(node, ast.Name) and isinstance(node.ctx, ast.Store):
                    self.assertNotIn(node.id, taken, (path.name, node.lineno))

    def test_imports_name_the_file_and_go_one_way(self):
        asked = {path.stem: set() for path in FILES}
        for path in FILES:
            for node in ast.walk(ast.parse(path.read_text(encoding="utf-8"))):
                if isinstance(node, ast.ImportFrom) and node.module.startswith("sixthrows."):
                    stem = node.module.split(".")[1]
                    asked[path.stem].add(stem)
                    body = ast.parse((PACKAGE / f"{stem}.py").read_text(encoding="utf-8")).body
                    names = {getattr(one, "name", None) for one in body}
                    names |= {one.targets[0].id for one in body if isinstance(one, ast.Assign)}
                    self.assertLessEqual({alias.name for alias in node.names}, names, (path.name, stem))
        while asked:
            last = [stem for stem in asked if not asked[stem] & set(asked)]
            self.assertNotEqual(last, [], asked)
            for stem in last:
                del asked[stem]

    def test_methods(self):
        own = [node.name for _, node in nodes(ast.FunctionDef)]
        for name, node in nodes(ast.Call):
            if isinstance(node.func, ast.Attribute):
                self.assertIn(node.func.attr, METHODS + own, (name, node.lineno))
        for special in own:
            self.assertTrue(not special.startswith("__") or special in SPECIAL, special)

    def test_operators_and_properties_change_only_what_is_their_own(self):
        found = behind_operators()
        self.assertGreater(len(found), 10)
        for function in found:
            assigned = [node for node in ast.walk(function) if isinstance(node, ast.Assign)]
            names = {node.targets[0].id for node in assigned if isinstance(node.targets[0], ast.Name)}
            other = {node.targets[0].id for node in assigned
                     if isinstance(node.targets[0], ast.Name) and not is_new(node.value)}
            for node in ast.walk(function):
                changed = None
                if isinstance(node, (ast.Subscript, ast.Attribute)) and not isinstance(node.ctx, ast.Load):
                    changed = node.value
                if isinstance(node, ast.Call) and getattr(node.func, "attr", None) in CHANGING:
                    changed = node.func.value
                while isinstance(changed, ast.Subscript):
                    changed = changed.value
                if changed is not None:
                    self.assertIsInstance(changed, ast.Name, (function.name, node.lineno))
                    self.assertIn(changed.id, names - other, (function.name, node.lineno))
                if isinstance(node, ast.AugAssign):
                    self.assertIsInstance(node.value, ast.Constant, (function.name, node.lineno))

    def test_no_generators_where_a_list_is_wanted(self):
        for name, node in nodes(ast.Call):
            if isinstance(node.func, ast.Name) and node.func.id in WITHOUT_GENERATORS:
                found = [one for one in node.args if isinstance(one, ast.GeneratorExp)]
                self.assertEqual(found, [], (name, node.lineno))

    def test_values_and_statements(self):
        for name, node in nodes(ast.Constant):
            self.assertNotIsInstance(node.value, (float, complex), (name, node.lineno))
        for name, node in nodes((ast.Div, ast.Global, ast.AsyncFunctionDef, ast.Await)):
            self.fail((name, node))


if __name__ == "__main__":
    unittest.main()
