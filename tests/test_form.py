"""The form of the package: the rules of shared/LANGUAGE.md that can be read off its files."""
import ast
import builtins
import pathlib
import unittest

PACKAGE = pathlib.Path(__file__).resolve().parent.parent / "firstterms"
LIBRARY = {"heapq": {"heappush", "heappop", "heapify"}, "math": {"gcd", "lcm", "isqrt", "comb", "perm", "factorial"},
           "itertools": {"combinations", "permutations", "chain", "accumulate", "pairwise", "islice"}}
BUILTINS = set("""len range enumerate zip min max sum abs sorted reversed int str bool list tuple dict set isinstance
ord repr any all divmod map iter next Exception ValueError KeyError ZeroDivisionError""".split())
METHODS = set("""append clear copy count endswith extend find get index insert isalnum isalpha isdigit islower isspace
isupper items join keys ljust lower lstrip partition pop remove replace reverse rfind rjust rpartition rsplit rstrip
setdefault split splitlines startswith strip update upper values zfill bit_length add discard""".split())
BARRED = (ast.Div, ast.Global, ast.AsyncFunctionDef, ast.Await, ast.Import, ast.MatMult)
NESTS = (ast.FunctionDef, ast.Lambda)


def files():
    return sorted(PACKAGE.rglob("*.py"))


def trees():
    return [(path, ast.parse(path.read_text())) for path in files()]


def bound_names(tree):
    """All names that a file gives to anything but attributes."""
    names = [node.id for node in ast.walk(tree) if isinstance(node, ast.Name) and isinstance(node.ctx, ast.Store)]
    names += [node.arg for node in ast.walk(tree) if isinstance(node, ast.arg)]
    names += [node.name for node in ast.walk(tree) if isinstance(node, (ast.FunctionDef, ast.ClassDef))]
    return names


def defined_names(tree):
    """What a file defines at module level."""
    names = [node.name for node in tree.body if isinstance(node, (ast.FunctionDef, ast.ClassDef))]
    return names + [node.targets[0].id for node in tree.body if isinstance(node, ast.Assign)]


class FormTest(unittest.TestCase):
    def test_nothing_else_in_the_folder(self):
        for path in PACKAGE.rglob("*"):
            if "__pycache__" not in path.parts and path.is_file():
                self.assertRegex(path.name, r"^[a-z0-9_]+\.py$")

    def test_characters_and_sizes(self):
        for path in files():
            text = path.read_text()
            lines = text.split("\n")
            self.assertTrue(all(c == "\n" or " " <= c <= "~" for c in text), path)
            self.assertLessEqual(len(lines) - 1, 399, path)
            self.assertLessEqual(max([len(line) for line in lines]), 120, path)

    def test_short_functions(self):
        for path, tree in trees():
            for node in ast.walk(tree):
                if isinstance(node, ast.FunctionDef):
                    self.assertLessEqual(node.end_lineno - node.lineno + 1, 40, (path, node.name))
                    self.assertEqual(node.decorator_list, [], (path, node.name))
                    self.assertIsNotNone(ast.get_docstring(node) or node.name == "__init__" or None, node.name)

    def test_module_level(self):
        allowed = (ast.ImportFrom, ast.FunctionDef, ast.ClassDef, ast.Assign)
        for path, tree in trees():
            self.assertIsNotNone(ast.get_docstring(tree), path)
            for node in tree.body[1:]:
                self.assertIsInstance(node, allowed, path)
            names = defined_names(tree)
            for node in tree.body:
                if isinstance(node, ast.ImportFrom):
                    names += [name.name for name in node.names]
            self.assertEqual(len(names), len(set(names)), path)

    def test_imports(self):
        defined = {"firstterms." + path.stem: defined_names(tree) for path, tree in trees()}
        for path, tree in trees():
            for node in ast.walk(tree):
                if isinstance(node, ast.ImportFrom):
                    self.assertIn(node, tree.body, path)
                    self.assertEqual(node.level, 0, path)
                    told = LIBRARY.get(node.module, defined.get(node.module, ()))
                    for name in node.names:
                        self.assertIn(name.name, told, path)
                        self.assertIsNone(name.asname, path)

    def test_no_two_files_import_from_each_other(self):
        asks = {path.stem: [node.module.split(".")[1] for node in tree.body
                            if isinstance(node, ast.ImportFrom) and node.module.startswith("firstterms.")]
                for path, tree in trees()}
        while asks:
            free = [name for name in asks if not [other for other in asks[name] if other in asks]]
            self.assertTrue(free, asks)
            for name in free:
                del asks[name]

    def test_no_barred_signs(self):
        for path, tree in trees():
            for node in ast.walk(tree):
                self.assertNotIsInstance(node, BARRED, path)
                if isinstance(node, ast.Constant):
                    self.assertNotIsInstance(node.value, (float, complex), path)
                    self.assertFalse(isinstance(node.value, str) and chr(37) in node.value, (path, node.lineno))
                if isinstance(node, ast.BinOp) and isinstance(node.op, ast.Pow):
                    self.assertIsInstance(node.right, ast.Constant, (path, node.lineno))
                if isinstance(node, ast.Compare):
                    for sign, right in zip(node.ops, node.comparators):
                        if isinstance(sign, (ast.Is, ast.IsNot)):
                            self.assertIsInstance(right, ast.Constant, (path, node.lineno))

    def test_names(self):
        # A test of examples may have left the last result there as _.
        taken = set(dir(builtins)) - {"_"}
        for path, tree in trees():
            for name in bound_names(tree):
                self.assertTrue(name not in taken, (path, name))
                self.assertRegex(name, r"^(_|_?[A-Za-z][A-Za-z0-9_]*|__init__)$")
            imported = [name.name for node in tree.body if isinstance(node, ast.ImportFrom) for name in node.names]
            self.assertEqual([name for name in bound_names(tree) if name in imported], [], path)

    def test_imports_are_used(self):
        for path, tree in trees():
            read = {node.id for node in ast.walk(tree) if isinstance(node, ast.Name)}
            for node in tree.body:
                if isinstance(node, ast.ImportFrom):
                    for name in node.names:
                        self.assertIn(name.name, read, path)

    def test_calls(self):
        own = {below.name for path, tree in trees() for node in tree.body if isinstance(node, ast.ClassDef)
               for below in node.body if isinstance(below, ast.FunctionDef)}
        for path, tree in trees():
            known = set(bound_names(tree)) | BUILTINS
            for node in tree.body:
                if isinstance(node, ast.ImportFrom):
                    known |= {name.name for name in node.names}
            for node in ast.walk(tree):
                if isinstance(node, ast.Call) and isinstance(node.func, ast.Name):
                    self.assertIn(node.func.id, known, (path, node.lineno))
                elif isinstance(node, ast.Call):
                    self.assertIsInstance(node.func, ast.Attribute, (path, node.lineno))
                    self.assertIn(node.func.attr, METHODS | own, (path, node.lineno))

    def test_classes(self):
        """No name is a method and an attribute of one class, and no method is of a builtin value's or has two underscores."""
        for path, tree in trees():
            for node in tree.body:
                if isinstance(node, ast.ClassDef):
                    methods = [below.name for below in node.body if isinstance(below, ast.FunctionDef)]
                    attributes = {below.attr for below in ast.walk(node)
                                  if isinstance(below, ast.Attribute) and isinstance(below.ctx, ast.Store)}
                    self.assertEqual(len(methods), len(set(methods)), (path, node.name))
                    self.assertEqual(set(methods) & attributes, set(), (path, node.name))
                    for name in set(methods) | attributes:
                        for kind in (str, int, list, dict, set, bytes, tuple):
                            self.assertFalse(hasattr(kind, name) and name != "__init__", (path, name))
                        self.assertTrue(name == "__init__" or not name.startswith("_"), (path, name))
                    self.assertEqual([base.id for base in node.bases if isinstance(base, ast.Name)][1:], [])

    def test_comprehensions_stand_in_functions(self):
        kinds = (ast.ListComp, ast.SetComp, ast.DictComp, ast.GeneratorExp)
        for path, tree in trees():
            inside = {id(below) for node in ast.walk(tree) if isinstance(node, NESTS) for below in ast.walk(node)}
            for node in ast.walk(tree):
                if isinstance(node, kinds):
                    self.assertIn(id(node), inside, (path, node.lineno))
