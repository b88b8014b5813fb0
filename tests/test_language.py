"""What can be seen of the language rules by going through the package's files."""

import ast
import builtins
import pathlib
import unittest

FOLDER = pathlib.Path(__file__).resolve().parent.parent / "lossbars"
ALLOWED = set("""len range enumerate zip min max sum abs sorted reversed int str bool list tuple dict set isinstance ord
repr any all divmod property ValueError LookupError KeyError""".split())
METHODS = set("""append clear copy count endswith extend find get index insert isalnum isalpha isdigit islower isspace
isupper items join keys ljust lower lstrip partition pop remove replace reverse rfind rjust rpartition rsplit rstrip
setdefault split splitlines startswith strip update upper values zfill bit_length add discard""".split())
BARRED = set("""register mro elements open input law version_info with_traceback add_note attrgetter breakpoint compile
dir eval exec exit gc getattr globals hasattr help id locals os quit setattr super type vars sys iter next map hash
filter format round print""".split())
OWN_DOUBLE = {"__init__", "__eq__", "__len__", "__contains__"}
LIBRARY = {"math": {"gcd", "lcm", "isqrt", "comb", "perm", "factorial"},
           "itertools": {"product", "combinations", "permutations"}}


def trees():
    return {path.stem: ast.parse(path.read_text()) for path in sorted(FOLDER.glob("*.py"))}


def bound(tree):
    """The names that a file gives a meaning to, each as often as it does, outside of imports."""
    found = []
    for node in ast.walk(tree):
        if isinstance(node, (ast.FunctionDef, ast.ClassDef)):
            found.append(node.name)
        elif isinstance(node, ast.arg):
            found.append(node.arg)
        elif isinstance(node, ast.Name) and isinstance(node.ctx, ast.Store):
            found.append(node.id)
    return found


def imported(tree):
    return {name.name: node.module for node in tree.body if isinstance(node, ast.ImportFrom) for name in node.names}


class Language(unittest.TestCase):

    def test_files(self):
        for path in FOLDER.iterdir():
            if path.name == "__pycache__":
                continue
            self.assertRegex(path.name, r"^[a-z_][a-z0-9_]*\.py$")
            text = path.read_text()
            self.assertTrue(all(sign == "\n" or " " <= sign <= "~" for sign in text), path.name)
            lines = text.split("\n")
            self.assertLess(len(lines), 400, path.name)
            self.assertLessEqual(max(len(line) for line in lines), 120, path.name)
        self.assertTrue((FOLDER / "__init__.py").exists())

    def test_functions_are_short(self):
        for name, tree in trees().items():
            for node in ast.walk(tree):
                if isinstance(node, ast.FunctionDef):
                    self.assertLessEqual(node.end_lineno - node.lineno + 1, 40, f"{name}: {node.name}")
                    self.assertEqual([each for each in node.decorator_list if not isinstance(each, ast.Name)], [])

    def test_imports(self):
        files = trees()
        uses = {}
        for name, tree in files.items():
            uses[name] = set()
            used = {node.id for node in ast.walk(tree) if isinstance(node, ast.Name)}
            for node in ast.walk(tree):
                self.assertNotIsInstance(node, ast.Import, name)
                if isinstance(node, ast.ImportFrom):
                    self.assertIn(node, tree.body, name)
                    self.assertEqual([each.asname for each in node.names if each.asname], [], name)
                    self.imports_what_is_there(files, node)
                    uses[name].add(node.module.partition(".")[2])
            self.assertEqual(set(imported(tree)) - used, set(), name)
            self.assertEqual(set(imported(tree)) & set(bound(tree)), set(), name)
        while uses:
            last = [name for name in uses if not uses[name] & set(uses)]
            self.assertTrue(last, f"files that import from each other: {sorted(uses)}")
            uses = {name: uses[name] for name in uses if name not in last}

    def imports_what_is_there(self, files, node):
        names = {each.name for each in node.names}
        if node.module in LIBRARY:
            self.assertLessEqual(names, LIBRARY[node.module])
            return
        package, _, name = node.module.partition(".")
        self.assertEqual((package, node.level), ("lossbars", 0))
        there = {each.name for each in files[name].body if isinstance(each, (ast.FunctionDef, ast.ClassDef))}
        there |= {each.targets[0].id for each in files[name].body if isinstance(each, ast.Assign)}
        self.assertLessEqual(names, there, node.module)

    def test_module_level(self):
        for name, tree in trees().items():
            told = list(imported(tree))
            for node in tree.body:
                if isinstance(node, (ast.FunctionDef, ast.ClassDef)):
                    told.append(node.name)
                elif isinstance(node, ast.Assign):
                    ast.literal_eval(node.value)
                    told.append(node.targets[0].id)
                elif not isinstance(node, ast.ImportFrom):
                    self.assertIsInstance(ast.literal_eval(node.value), str, name)
            self.assertEqual(len(told), len(set(told)), name)

    def test_what_is_not_used(self):
        banned = (ast.GeneratorExp, ast.Yield, ast.YieldFrom, ast.Await, ast.AsyncFunctionDef, ast.Global,
                  ast.ExceptHandler, ast.Match, ast.With, ast.Div, ast.Is, ast.IsNot, ast.Starred, ast.Delete)
        for name, tree in trees().items():
            for node in ast.walk(tree):
                if isinstance(node, ast.Compare) and isinstance(node.ops[0], (ast.Is, ast.IsNot)):
                    self.assertIsNone(ast.literal_eval(node.comparators[0]), name)
                elif not isinstance(node, (ast.Is, ast.IsNot)):
                    self.assertNotIsInstance(node, banned, f"{name}: {ast.dump(node)}")
                if isinstance(node, ast.Constant):
                    self.assertNotIsInstance(node.value, (float, complex), name)
                    self.assertNotIn("%", str(node.value), name)

    def test_what_stands_in_a_finally(self):
        for name, tree in trees().items():
            for node in ast.walk(tree):
                if isinstance(node, ast.Try):
                    self.assertEqual((node.handlers, node.orelse), ([], []), name)
                    for row in node.finalbody:
                        self.assertTrue(self.is_simple(row), f"{name}: {ast.unparse(row)}")

    def is_simple(self, row):
        if isinstance(row, ast.If):
            asked = isinstance(row.test, ast.Compare) and isinstance(row.test.ops[0], (ast.Is, ast.IsNot))
            return asked and all(self.is_simple(each) for each in row.body + row.orelse)
        parts = row.targets + [row.value] if isinstance(row, ast.Assign) else [row]
        return all(isinstance(part, (ast.Name, ast.Attribute)) for part in parts)

    def test_the_library_is_called_at_once(self):
        wanted = {name for names in LIBRARY.values() for name in names}
        for name, tree in trees().items():
            called = {node.func for node in ast.walk(tree) if isinstance(node, ast.Call)}
            for node in ast.walk(tree):
                if isinstance(node, ast.Call) and isinstance(node.func, ast.Name) and node.func.id in wanted:
                    self.assertEqual(node.keywords, [], name)
                    if node.func.id in LIBRARY["itertools"]:
                        self.assertTrue(all(isinstance(part, ast.Name) for part in node.args), name)
                elif isinstance(node, ast.Name) and node.id in wanted:
                    self.assertIn(node, called, name)

    def test_keys_of_sorting(self):
        for name, tree in trees().items():
            for node in ast.walk(tree):
                if isinstance(node, ast.BinOp) and isinstance(node.op, ast.Pow):
                    self.fail(f"{name}: a power")
                if isinstance(node, ast.Call) and isinstance(node.func, ast.Name) and node.func.id in ("sorted", "max", "min"):
                    self.assertLessEqual({word.arg for word in node.keywords}, {"key", "default"}, name)

    def test_names(self):
        for name, tree in trees().items():
            for word in bound(tree):
                self.assertNotIn(word, BARRED, name)
                self.assertFalse(word not in OWN_DOUBLE and hasattr(builtins, word), f"{name}: {word}")
                self.assertFalse(word not in OWN_DOUBLE and word.startswith("__"), f"{name}: {word}")
            known = set(bound(tree)) | set(imported(tree))
            used = {node.id for node in ast.walk(tree) if isinstance(node, ast.Name)}
            self.assertLessEqual(used - known, ALLOWED, name)

    def test_methods(self):
        own = {node.name for tree in trees().values() for each in tree.body if isinstance(each, ast.ClassDef)
               for node in each.body if isinstance(node, ast.FunctionDef) and not node.decorator_list}
        for name, tree in trees().items():
            called = {node.func for node in ast.walk(tree) if isinstance(node, ast.Call)}
            for node in ast.walk(tree):
                if isinstance(node, ast.Attribute) and node in called:
                    self.assertIn(node.attr, METHODS | own, name)
                elif isinstance(node, ast.Attribute):
                    self.assertNotIn(node.attr, METHODS | own, f"{name}: a method that is not called")


if __name__ == "__main__":
    unittest.main()
