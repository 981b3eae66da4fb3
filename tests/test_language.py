"""What the files of the package keep to: their names, their sizes and their imports."""

import ast
import pathlib
import unittest

ROOT = pathlib.Path(__file__).resolve().parent.parent
PACKAGE = ROOT / "aswritten"
FILES = sorted(PACKAGE.rglob("*.py"))
# modules of the interface, in the order in which they stand there
ORDER = ("errors", "models", "wishes", "rows", "givens", "turns", "judge", "pairing", "striking", "reasons", "search",
         "answers", "webs", "likeness", "keeping", "clashing", "texts", "desk")
LIBRARY = {
    "heapq": ("heappush", "heappop", "heapify", "heapreplace", "heappushpop"),
    "math": ("gcd", "lcm", "isqrt", "comb", "perm", "factorial"),
    "itertools": ("product", "combinations", "permutations", "chain", "accumulate", "pairwise", "islice",
                  "zip_longest"),
    "collections": ("defaultdict", "deque"),
}
METHODS = set("""append clear copy count endswith extend find get index insert isalnum isalpha isdigit islower isspace
    isupper items join keys ljust lower lstrip partition pop remove replace reverse rfind rjust rpartition rsplit
    rstrip setdefault split splitlines startswith strip update upper values zfill bit_length""".split())
BUILTINS = set("""len range enumerate zip min max sum abs sorted reversed int str bool bytes list tuple dict set
    frozenset isinstance ord repr any all divmod pow map iter next getattr hasattr setattr property staticmethod
    classmethod super type Exception ValueError TypeError KeyError IndexError LookupError ZeroDivisionError
    ArithmeticError OverflowError RuntimeError NotImplementedError AttributeError StopIteration NotImplemented""".split())


def trees():
    return [(path, ast.parse(path.read_text(encoding="ascii"))) for path in FILES]


def imports_of(tree):
    return [node for node in ast.walk(tree) if isinstance(node, (ast.Import, ast.ImportFrom))]


class Language(unittest.TestCase):
    def test_the_package_has_python_files_alone(self):
        others = [path for path in PACKAGE.rglob("*") if path.suffix != ".py" and "__pycache__" not in path.parts]
        self.assertEqual(others, [])
        self.assertTrue((PACKAGE / "__init__.py").exists())
        self.assertLessEqual(len(FILES), 100)

    def test_sizes_and_signs(self):
        for path in FILES:
            lines = path.read_bytes().decode("ascii").split("\n")
            self.assertLessEqual(len(lines) - 1, 399, path)
            for number, line in enumerate(lines, start=1):
                self.assertLessEqual(len(line), 120, (path, number))
                self.assertTrue(all(" " <= sign <= "~" for sign in line), (path, number))

    def test_functions_have_at_most_40_lines(self):
        for path, tree in trees():
            for node in ast.walk(tree):
                if isinstance(node, ast.FunctionDef):
                    self.assertLessEqual(node.end_lineno - node.lineno + 1, 40, (path, node.name))

    def test_imports_come_from_the_package_and_the_library(self):
        for path, tree in trees():
            for node in imports_of(tree):
                self.assertIsInstance(node, ast.ImportFrom, path)
                self.assertIn(node, tree.body, path)
                self.assertEqual(node.level, 0, path)
                head = node.module.split(".")[0]
                for alias in node.names:
                    self.assertTrue(head == "aswritten" or alias.name in LIBRARY.get(node.module, ()), (path, alias.name))
                    self.assertTrue(head == "aswritten" or alias.asname is None, path)

    def test_each_imported_name_is_defined_where_it_comes_from(self):
        defined = {"aswritten." + path.stem: names_of(tree) for path, tree in trees()}
        for path, tree in trees():
            for node in imports_of(tree):
                if node.module in defined:
                    for alias in node.names:
                        self.assertIn(alias.name, defined[node.module], path)

    def test_modules_of_the_interface_import_from_those_above(self):
        reached = {}
        for path, tree in trees():
            modules = {node.module.split(".")[1] for node in imports_of(tree) if node.module.startswith("aswritten.")}
            reached[path.stem] = modules
        for name in reached:
            waiting, seen = [name], set()
            while waiting:
                for other in reached[waiting.pop()] - seen:
                    seen.add(other)
                    waiting.append(other)
            self.assertNotIn(name, seen)
            if name in ORDER:
                self.assertTrue(all(ORDER.index(other) < ORDER.index(name) for other in seen if other in ORDER), name)

    def test_other_builtins_are_not_used(self):
        import builtins
        barred = set(dir(builtins)) - BUILTINS
        for path, tree in trees():
            for node in ast.walk(tree):
                if isinstance(node, ast.Name):
                    self.assertNotIn(node.id, barred, (path, node.lineno))

    def test_local_names_are_no_imports_classes_or_builtins(self):
        import builtins
        for path, tree in trees():
            taken = {alias.name for node in imports_of(tree) for alias in node.names}
            taken |= {node.name for node in tree.body if isinstance(node, ast.ClassDef)} | set(dir(builtins))
            for node in ast.walk(tree):
                if isinstance(node, ast.arg):
                    self.assertNotIn(node.arg, taken, (path, node.lineno))
                if isinstance(node, ast.Name) and isinstance(node.ctx, ast.Store):
                    self.assertNotIn(node.id, taken, (path, node.lineno))

    def test_each_name_of_a_module_is_bound_once_and_each_import_is_used(self):
        for path, tree in trees():
            imported = [alias.name for node in imports_of(tree) for alias in node.names]
            bound = imported + [node.name for node in tree.body if isinstance(node, (ast.FunctionDef, ast.ClassDef))]
            bound += [target.id for node in tree.body if isinstance(node, ast.Assign) for target in node.targets]
            self.assertEqual(sorted(bound), sorted(set(bound)), path)
            used = {node.id for node in ast.walk(tree) if isinstance(node, ast.Name)}
            self.assertEqual([name for name in imported if name not in used], [], path)

    def test_is_stands_beside_none_true_and_false(self):
        for path, tree in trees():
            for node in ast.walk(tree):
                if isinstance(node, ast.Compare) and any(isinstance(op, (ast.Is, ast.IsNot)) for op in node.ops):
                    is_type = isinstance(node.left, ast.Call) and getattr(node.left.func, "id", "") == "type"
                    right = node.comparators[0]
                    is_constant = isinstance(right, ast.Constant) and right.value in (None, True, False)
                    self.assertTrue(is_type or is_constant, (path, node.lineno))

    def test_methods_are_those_of_the_language_or_own_ones(self):
        own = {node.name for path, tree in trees() for item in ast.walk(tree) if isinstance(item, ast.ClassDef)
               for node in item.body if isinstance(node, ast.FunctionDef)}
        self.assertEqual(own & METHODS, set())
        for path, tree in trees():
            for node in ast.walk(tree):
                if isinstance(node, ast.Call) and isinstance(node.func, ast.Attribute):
                    self.assertIn(node.func.attr, METHODS | own, (path, node.lineno))

    def test_signs_of_the_language_that_are_barred(self):
        barred = (ast.AsyncFunctionDef, ast.Await)
        for path, tree in trees():
            for node in ast.walk(tree):
                self.assertNotIsInstance(node, barred, (path, getattr(node, "lineno", 0)))
                if isinstance(node, ast.BinOp):
                    self.assertNotIsInstance(node.op, ast.Div, (path, node.lineno))
                if isinstance(node, ast.Constant):
                    self.assertNotIsInstance(node.value, (float, complex), (path, node.lineno))
                    self.assertFalse(isinstance(node.value, str) and "%" in node.value, (path, node.lineno))


def names_of(tree):
    """The names that the file itself defines."""
    names = set()
    for node in tree.body:
        if isinstance(node, (ast.FunctionDef, ast.ClassDef)):
            names.add(node.name)
        if isinstance(node, ast.Assign):
            names.update(target.id for target in node.targets)
    return names
