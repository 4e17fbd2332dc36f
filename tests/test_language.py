"""The rules of ../shared/LANGUAGE.md that a look at the package's files can hold."""

import ast
import builtins
import pathlib
import re
import unittest

FOLDER = pathlib.Path(__file__).resolve().parent.parent / "ownchecks"
ALLOWED = set("""len range enumerate zip min max sum abs sorted reversed int str bool bytes list tuple dict set frozenset
isinstance ord repr any all divmod pow getattr hasattr setattr iter next map super property staticmethod classmethod
Exception ValueError TypeError KeyError IndexError LookupError ZeroDivisionError ArithmeticError OverflowError
RuntimeError NotImplementedError AttributeError StopIteration NotImplemented""".split())
DUNDERS = set("__init__ __eq__ __repr__ __str__ __len__ __enter__ __exit__ __call__ __iter__ __contains__".split())
METHODS = set("""append clear copy count endswith extend find get index insert isalnum isalpha isdigit islower isspace
isupper items join keys ljust lower lstrip partition pop remove replace reverse rfind rjust rpartition rsplit rstrip
setdefault split splitlines startswith strip update upper values zfill bit_length add discard
removeprefix removesuffix isascii isprintable""".split())
BARRED = set("""typing typing_extensions enum Enum Generic Protocol ABC namedtuple NamedTuple TypedDict dataclass
register mro elements open input law version_info eval exec globals locals vars compile os gc id hash sys""".split())
LIBRARY = {"math": {"gcd", "lcm", "isqrt", "comb", "perm", "factorial"}}
UNUSED = (ast.Global, ast.AsyncFunctionDef, ast.Await, ast.Set, ast.GeneratorExp, ast.Div, ast.MatMult, ast.Import,
          ast.AnnAssign)


def files():
    return sorted(FOLDER.rglob("*.py"))


def trees():
    return [(path, ast.parse(path.read_text("ascii"))) for path in files()]


class Language(unittest.TestCase):
    def test_files_and_sizes(self):
        for path in FOLDER.rglob("*"):
            if "__pycache__" not in path.parts:
                self.assertTrue(path.is_dir() or re.fullmatch(r"[a-z0-9_]+\.py", path.name), path)
                self.assertTrue(path.is_file() or (path / "__init__.py").exists(), path)
        for path in files():
            text = path.read_bytes().decode("ascii")
            self.assertFalse([sign for sign in text if sign != "\n" and not " " <= sign <= "~"], path)
            self.assertLessEqual(len(text.splitlines()), 399, path)
            self.assertLessEqual(max(len(line) for line in text.splitlines()), 120, path)
            self.assertTrue(text.endswith("\n"), path)

    def test_functions_are_small(self):
        for path, tree in trees():
            for node in ast.walk(tree):
                if isinstance(node, ast.FunctionDef):
                    self.assertLessEqual(node.end_lineno - node.lineno + 1, 40, (path, node.name))

    def test_module_level(self):
        for path, tree in trees():
            for node in tree.body:
                if isinstance(node, ast.Expr):
                    self.assertIs(node, tree.body[0])
                    self.assertIsInstance(node.value.value, str)
                elif isinstance(node, ast.Assign):
                    self.assertIsInstance(node.targets[0], ast.Name)
                    # what is no literal is a table of functions that are defined above it
                    above = {one.name for one in tree.body[:tree.body.index(node)] if isinstance(one, ast.FunctionDef)}
                    named = {one.id for one in ast.walk(node.value) if isinstance(one, ast.Name)}
                    self.assertLessEqual(named, above, path)
                    if not named:
                        ast.literal_eval(node.value)
                else:
                    self.assertIsInstance(node, (ast.ImportFrom, ast.FunctionDef, ast.ClassDef), path)

    def test_imports_name_the_defining_file(self):
        for path, tree in trees():
            for node in ast.walk(tree):
                if isinstance(node, ast.ImportFrom) and node.module in LIBRARY:
                    self.assertLessEqual({name.name for name in node.names}, LIBRARY[node.module])
                elif isinstance(node, ast.ImportFrom):
                    source = FOLDER.parent / (node.module.replace(".", "/") + ".py")
                    self.assertTrue(source.is_file(), (path, node.module))
                    defined = {getattr(one, "name", None) or one.targets[0].id
                               for one in ast.parse(source.read_text()).body
                               if isinstance(one, (ast.FunctionDef, ast.ClassDef, ast.Assign))}
                    self.assertLessEqual({name.name for name in node.names}, defined)
                    self.assertFalse([name for name in node.names if name.asname])

    def test_imports_are_used(self):
        for path, tree in trees():
            used = {node.id for node in ast.walk(tree) if isinstance(node, ast.Name)}
            for node in ast.walk(tree):
                if isinstance(node, ast.ImportFrom):
                    self.assertLessEqual({name.name for name in node.names}, used, path)

    def test_names_of_the_library_are_only_called(self):
        for path, tree in trees():
            told = [name.name for node in ast.walk(tree) if isinstance(node, ast.ImportFrom) and node.module in LIBRARY
                    for name in node.names]
            named = [node for node in ast.walk(tree) if isinstance(node, ast.Name) and node.id in told]
            called = [node.func for node in ast.walk(tree) if isinstance(node, ast.Call)]
            self.assertFalse([node.id for node in named if node not in called], path)

    def test_no_file_imports_itself(self):
        sources = {".".join(path.relative_to(FOLDER.parent).with_suffix("").parts): tree for path, tree in trees()}
        needs = {name: {node.module for node in tree.body if isinstance(node, ast.ImportFrom)} & set(sources)
                 for name, tree in sources.items()}
        while needs:
            free = [name for name, others in needs.items() if not others & set(needs)]
            self.assertTrue(free, needs)
            needs = {name: others for name, others in needs.items() if name not in free}

    def test_names(self):
        for path, tree in trees():
            bound = [name.name for node in ast.walk(tree) if isinstance(node, ast.ImportFrom) for name in node.names]
            bound += [node.name for node in tree.body if isinstance(node, ast.ClassDef)]
            for node in ast.walk(tree):
                self.assertNotIsInstance(node, UNUSED, path)
                if isinstance(node, ast.Name) and isinstance(node.ctx, ast.Load) and hasattr(builtins, node.id):
                    self.assertIn(node.id, ALLOWED, path)
                given = node.arg if isinstance(node, ast.arg) else ""
                if isinstance(node, ast.Name) and isinstance(node.ctx, ast.Store):
                    given = node.id
                self.assertNotIn(given, bound, path)
                self.assertFalse(hasattr(builtins, given), (path, given))
                for name in (given, getattr(node, "id", ""), getattr(node, "attr", ""), getattr(node, "name", "")):
                    self.assertNotIn(name, BARRED, path)
                    if isinstance(name, str) and name.startswith("__"):
                        self.assertIn(name, DUNDERS, path)

    def test_methods_of_builtin_values(self):
        own = {node.name for _, tree in trees() for node in ast.walk(tree) if isinstance(node, ast.FunctionDef)}
        for path, tree in trees():
            for node in ast.walk(tree):
                if isinstance(node, ast.Call) and isinstance(node.func, ast.Attribute):
                    self.assertIn(node.func.attr, METHODS | own, path)

    def test_no_sign_of_division_in_strings(self):
        for path, tree in trees():
            for node in ast.walk(tree):
                if isinstance(node, ast.Constant) and isinstance(node.value, str):
                    self.assertNotIn("%", node.value, path)


if __name__ == "__main__":
    unittest.main()
