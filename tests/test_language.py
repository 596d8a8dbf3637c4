"""The package keeps to the form that its files share: what can be seen of it in the code."""

import ast
import builtins
import unittest
from pathlib import Path

PACKAGE = Path(__file__).resolve().parent.parent / "algebrastack"
LIBRARY = {
    "math": {"gcd", "lcm", "isqrt", "comb", "perm", "factorial"},
    "heapq": {"heappush", "heappop", "heapify", "heapreplace", "heappushpop"},
    "itertools": {"product", "combinations", "permutations"},
}
BUILTINS = set(
    "len range enumerate zip min max sum abs sorted reversed int str bool list tuple dict set isinstance repr any all "
    "divmod ord map iter next ValueError KeyError IndexError ZeroDivisionError".split()
)
VALUE_METHODS = set(
    "append clear copy count endswith extend find get index insert isalnum isalpha isdigit islower isspace isupper "
    "items join keys ljust lower lstrip partition pop remove replace reverse rfind rjust rpartition rsplit rstrip "
    "setdefault split splitlines startswith strip update upper values zfill bit_length add discard sort".split()
)
BARRED = set(
    "mro elements open input law version_info register type typing enum dataclass eval exec exit compile dir gc help "
    "id os quit vars super setattr getattr hasattr globals locals builtins breakpoint".split()
)
AT_TOP = (ast.ImportFrom, ast.FunctionDef, ast.ClassDef, ast.Assign)
NOT_USED = (
    ast.AsyncFunctionDef, ast.AsyncFor, ast.AsyncWith, ast.Await, ast.Global, ast.Import, ast.Div, ast.AnnAssign,
    ast.MatMult, ast.TryStar,
)


def trees():
    return {path.stem: ast.parse(path.read_text()) for path in sorted(PACKAGE.glob("*.py"))}


def defined_in(tree):
    names = {node.name for node in tree.body if isinstance(node, (ast.FunctionDef, ast.ClassDef))}
    return names | {node.targets[0].id for node in tree.body if isinstance(node, ast.Assign)}


def bound_names(tree):
    """Yield the names that are assigned somewhere, and parameters."""
    for node in ast.walk(tree):
        if isinstance(node, ast.Name) and isinstance(node.ctx, ast.Store):
            yield node.id
        elif isinstance(node, ast.arg):
            yield node.arg


class FileTest(unittest.TestCase):
    def test_the_folder_holds_plain_files(self):
        for path in PACKAGE.iterdir():
            if path.name != "__pycache__":
                self.assertEqual(path.suffix, ".py", path)
                self.assertRegex(path.name, "^[a-z_]+[.]py$")

    def test_sizes_and_signs(self):
        for path in PACKAGE.glob("*.py"):
            text = path.read_bytes().decode("ascii")
            self.assertTrue(all(sign == "\n" or " " <= sign <= "~" for sign in text), path)
            lines = text.split("\n")
            self.assertLessEqual(len(lines), 399, path)
            for place, line in enumerate(lines):
                self.assertLessEqual(len(line), 120, (path, place + 1))
                self.assertEqual(line, line.rstrip(), (path, place + 1))

    def test_functions_are_small(self):
        for name, tree in trees().items():
            for node in ast.walk(tree):
                if isinstance(node, ast.FunctionDef):
                    self.assertLessEqual(node.end_lineno - node.lineno + 1, 40, (name, node.name))
                    self.assertTrue(ast.get_docstring(node) or node.name == "__init__", (name, node.name))


class StatementTest(unittest.TestCase):
    def test_module_level(self):
        for name, tree in trees().items():
            self.assertTrue(ast.get_docstring(tree), name)
            for node in tree.body[1:]:
                self.assertIsInstance(node, AT_TOP, (name, node.lineno))
                if isinstance(node, ast.Assign):
                    self.assertEqual([type(target) for target in node.targets], [ast.Name], (name, node.lineno))

    def test_imports(self):
        found = trees()
        for name, tree in found.items():
            for node in ast.walk(tree):
                if isinstance(node, ast.ImportFrom):
                    self.check_import(found, name, node)

    def check_import(self, found, name, node):
        self.assertEqual(node.level, 0, name)
        allowed = LIBRARY.get(node.module)
        if allowed is None:
            folder, _, stem = node.module.partition(".")
            self.assertEqual(folder, "algebrastack", (name, node.module))
            allowed = defined_in(found[stem])
        for alias in node.names:
            self.assertIn(alias.name, allowed, name)
            self.assertIsNone(alias.asname, name)

    def test_imports_lead_one_way(self):
        below = {
            name: [node.module.partition(".")[2] for node in tree.body if isinstance(node, ast.ImportFrom)]
            for name, tree in trees().items()
        }
        done = set()
        while len(done) < len(below):
            ready = [name for name in below if name not in done and all(k in done or k == "" for k in below[name])]
            self.assertNotEqual(ready, [], "files import from each other")
            done.update(ready)

    def test_imports_are_used(self):
        for name, tree in trees().items():
            read = {node.id for node in ast.walk(tree) if isinstance(node, ast.Name)}
            for node in tree.body:
                if isinstance(node, ast.ImportFrom):
                    for alias in node.names:
                        self.assertIn(alias.name, read, name)


class WordTest(unittest.TestCase):
    def test_what_is_not_used(self):
        for name, tree in trees().items():
            for node in ast.walk(tree):
                self.assertNotIsInstance(node, NOT_USED, (name, getattr(node, "lineno", None)))
                if isinstance(node, ast.Constant):
                    self.assertNotIsInstance(node.value, (float, complex), name)
                if isinstance(node, ast.FunctionDef):
                    self.assertEqual(node.decorator_list, [], (name, node.name))
                if isinstance(node, ast.BinOp) and isinstance(node.op, ast.Pow):
                    self.assertIsInstance(node.right, ast.Constant, (name, node.lineno))
                    self.assertLessEqual(node.right.value, 64, (name, node.lineno))

    def test_strings_hold_no_percent_sign(self):
        for name, tree in trees().items():
            for node in ast.walk(tree):
                if isinstance(node, ast.Constant) and isinstance(node.value, str):
                    self.assertNotIn("%", node.value, (name, node.lineno))

    def test_builtins(self):
        for name, tree in trees().items():
            for node in ast.walk(tree):
                if isinstance(node, ast.Name) and isinstance(node.ctx, ast.Load) and hasattr(builtins, node.id):
                    self.assertIn(node.id, BUILTINS, (name, node.lineno))

    def test_names(self):
        for name, tree in trees().items():
            taken = {node.name for node in tree.body if isinstance(node, ast.ClassDef)}
            for node in tree.body:
                if isinstance(node, ast.ImportFrom):
                    taken.update(alias.name for alias in node.names)
            functions = {node.name for node in ast.walk(tree) if isinstance(node, ast.FunctionDef)}
            for word in list(bound_names(tree)) + sorted(functions - {"__init__"}):
                self.assertFalse(hasattr(builtins, word), (name, word))
                self.assertNotIn(word, BARRED | taken, (name, word))
                self.assertFalse(word.startswith("__"), (name, word))

    def test_attributes(self):
        own = set(VALUE_METHODS)
        for tree in trees().values():
            for node in ast.walk(tree):
                if isinstance(node, ast.FunctionDef):
                    own.add(node.name)
                elif isinstance(node, ast.Attribute) and isinstance(node.ctx, ast.Store):
                    own.add(node.attr)
        for name, tree in trees().items():
            for node in ast.walk(tree):
                if isinstance(node, ast.Attribute):
                    self.assertIn(node.attr, own, (name, node.lineno))


class ClassTest(unittest.TestCase):
    def test_no_name_is_a_method_and_an_attribute(self):
        methods, attributes = set(), set()
        for tree in trees().values():
            for node in ast.walk(tree):
                if isinstance(node, ast.ClassDef):
                    methods.update(part.name for part in node.body if isinstance(part, ast.FunctionDef))
                elif isinstance(node, ast.Attribute) and isinstance(node.ctx, ast.Store):
                    attributes.add(node.attr)
        self.assertEqual(methods & attributes, set())

    def test_no_name_of_what_values_have(self):
        taken = {name for kind in (int, str, bytes, list, tuple, dict, set) for name in dir(kind)}
        for name, tree in trees().items():
            for node in ast.walk(tree):
                if isinstance(node, ast.Attribute) and isinstance(node.ctx, ast.Store):
                    self.assertNotIn(node.attr, taken, (name, node.lineno))
                elif isinstance(node, ast.ClassDef):
                    own = {part.name for part in node.body if isinstance(part, ast.FunctionDef)} - {"__init__"}
                    self.assertLessEqual(own & taken, VALUE_METHODS, (name, node.name))

    def test_no_loop_changes_what_it_goes_over(self):
        changing = {"append", "pop", "extend", "insert", "remove", "clear", "update", "setdefault"}
        for name, tree in trees().items():
            for loop in ast.walk(tree):
                if isinstance(loop, ast.For):
                    parts = [part for part in ast.walk(loop.iter) if isinstance(part, (ast.Name, ast.Attribute))]
                    over = {ast.unparse(part) for part in parts}
                    for node in ast.walk(ast.Module(loop.body, [])):
                        call = node.func if isinstance(node, ast.Call) else None
                        if isinstance(call, ast.Attribute) and call.attr in changing:
                            self.assertNotIn(ast.unparse(call.value), over, (name, node.lineno))


if __name__ == "__main__":
    unittest.main()
