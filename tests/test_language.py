"""The rules of the language that can be read off the code of the package, and points 3 and 101."""

import ast
import builtins
import re
import unittest
from pathlib import Path

FOLDER = Path(__file__).resolve().parent.parent / "kinkmeasure"
LIBRARY = {"math": {"gcd", "lcm", "isqrt", "comb", "perm", "factorial"},
           "heapq": {"heappush", "heappop", "heapify", "heapreplace", "heappushpop"}}
BUILTINS = set("""len range enumerate zip min max sum abs sorted reversed int str bool bytes list tuple dict set
    isinstance ord repr any all divmod Exception ValueError TypeError KeyError IndexError LookupError super
    ZeroDivisionError""".split())
METHODS = set("""append clear copy count endswith extend find get index insert isalnum isalpha isdigit islower isspace
    isupper items join keys ljust lower lstrip partition pop remove replace reverse rfind rjust rpartition rsplit
    rstrip setdefault split splitlines startswith strip update upper values zfill bit_length isascii removeprefix
    removesuffix isdecimal add discard __init__""".split())
STATEMENTS = (ast.Assign, ast.AugAssign, ast.If, ast.While, ast.For, ast.Return, ast.Break, ast.Continue, ast.Pass,
              ast.Raise, ast.Assert, ast.Delete, ast.Try, ast.Expr, ast.FunctionDef, ast.ClassDef, ast.ImportFrom)
NEVER = {"register", "mro", "elements", "open", "input", "law", "version_info", "with_traceback", "add_note"}
WORDS = r"\b(type|typing|typing_extensions|enum|Enum|Flag|Generic|Protocol|ABC|ABCMeta|namedtuple|NamedTuple)\b"


def bound_names(tree):
    """The names that code binds: parameters, variables, functions, classes and imports."""
    for node in ast.walk(tree):
        if isinstance(node, ast.arg):
            yield node.arg
        elif isinstance(node, ast.Name) and not isinstance(node.ctx, ast.Load):
            yield node.id
        elif isinstance(node, (ast.FunctionDef, ast.ClassDef)):
            yield node.name
        elif isinstance(node, ast.alias):
            yield node.asname or node.name
        elif isinstance(node, ast.ExceptHandler) and node.name:
            yield node.name


def docstrings(tree):
    kinds = (ast.Module, ast.FunctionDef, ast.ClassDef)
    owners = [node for node in ast.walk(tree) if isinstance(node, kinds)]
    return {id(node.body[0].value) for node in owners if ast.get_docstring(node) is not None}


class LanguageTest(unittest.TestCase):
    def setUp(self):
        self.files = sorted(FOLDER.glob("*.py"))
        self.texts = {path.stem: path.read_text(encoding="utf-8") for path in self.files}
        self.trees = {name: ast.parse(text) for name, text in self.texts.items()}
        self.nodes = [(name, node) for name, tree in self.trees.items() for node in ast.walk(tree)]

    def test_files(self):
        self.assertIn("__init__", self.texts)
        for path in FOLDER.iterdir():
            if path.name != "__pycache__":
                self.assertRegex(path.name, r"^(__init__|[a-z][a-z0-9_]*)\.py$")

    def test_lines_and_characters(self):
        for name, text in self.texts.items():
            self.assertIsNone(re.search(r"[^ -~\n]", text), name)
            lines = text.splitlines()
            self.assertLessEqual(len(lines), 399, name)
            self.assertLessEqual(max(map(len, lines)), 120, name)
            self.assertTrue(text.endswith("\n"), name)

    def test_functions(self):
        for name, node in self.nodes:
            if isinstance(node, ast.FunctionDef):
                self.assertLessEqual(node.end_lineno - node.lineno + 1, 40, (name, node.name))
                self.assertEqual(node.decorator_list, [], (name, node.name))
                self.assertIsNotNone(ast.get_docstring(node) or node.name == "__init__", (name, node.name))

    def test_statements(self):
        for name, node in self.nodes:
            if isinstance(node, ast.stmt):
                self.assertIsInstance(node, STATEMENTS, (name, node.lineno))
            self.assertNotIsInstance(node, (ast.Div, ast.Yield, ast.YieldFrom, ast.Await, ast.Lambda), name)

    def test_module_level(self):
        for name, tree in self.trees.items():
            seen = []
            for node in tree.body:
                self.assertIsInstance(node, (ast.Expr, ast.ImportFrom, ast.FunctionDef, ast.ClassDef, ast.Assign))
                seen.extend(bound_names(node) if isinstance(node, (ast.ImportFrom, ast.Assign))
                            else [getattr(node, "name", None)])
            seen = [word for word in seen if word is not None]
            self.assertEqual(len(seen), len(set(seen)), name)

    def test_imports(self):
        for name, node in self.nodes:
            if not isinstance(node, ast.ImportFrom):
                continue
            self.assertEqual(node.level, 0)
            words = {alias.name for alias in node.names}
            self.assertTrue(all(alias.asname is None for alias in node.names), name)
            if node.module in LIBRARY:
                self.assertLessEqual(words, LIBRARY[node.module], name)
                continue
            package, _, module = node.module.partition(".")
            self.assertEqual(package, "kinkmeasure", name)
            body = self.trees[module].body
            defined = [part for part in body if isinstance(part, (ast.FunctionDef, ast.ClassDef, ast.Assign))]
            own = {word for part in defined for word in bound_names(ast.Module([part], []))}
            self.assertLessEqual(words, own, (name, module))

    def test_imports_are_used(self):
        for name, tree in self.trees.items():
            loaded = {node.id for node in ast.walk(tree) if isinstance(node, ast.Name)}
            for node in ast.walk(tree):
                if isinstance(node, ast.ImportFrom):
                    self.assertLessEqual({alias.name for alias in node.names}, loaded, name)

    def test_no_circle_of_imports(self):
        reads = {name: {node.module.partition(".")[2] for node in tree.body
                        if isinstance(node, ast.ImportFrom) and node.module not in LIBRARY}
                 for name, tree in self.trees.items()}
        while reads:
            free = [name for name, others in reads.items() if not others & set(reads)]
            self.assertNotEqual(free, [], reads)
            for name in free:
                del reads[name]

    def test_names(self):
        every = set(dir(builtins))
        for name, tree in self.trees.items():
            top = {word for node in tree.body if isinstance(node, (ast.ImportFrom, ast.ClassDef))
                   for word in ([node.name] if isinstance(node, ast.ClassDef) else bound_names(node))}
            for word in bound_names(tree):
                self.assertNotIn(word, every, name)
                self.assertNotIn(word, NEVER, name)
                self.assertRegex(word, r"^(_?[A-Za-z][A-Za-z0-9_]*|_|__init__)$", name)
            for node in ast.walk(tree):
                if isinstance(node, ast.FunctionDef):
                    inner = set(bound_names(ast.Module(node.body, []))) | {arg.arg for arg in node.args.args}
                    inner |= {arg.arg for arg in node.args.kwonlyargs}
                    self.assertFalse(inner & top, (name, node.name, inner & top))

    def test_builtins_that_are_used(self):
        every = set(dir(builtins))
        for name, node in self.nodes:
            if isinstance(node, ast.Name) and node.id in every:
                self.assertIn(node.id, BUILTINS, (name, node.lineno))

    def test_methods_that_are_used(self):
        own = {node.name for _, node in self.nodes if isinstance(node, ast.FunctionDef)}
        stored = {node.attr for _, node in self.nodes
                  if isinstance(node, ast.Attribute) and isinstance(node.ctx, ast.Store)}
        for name, node in self.nodes:
            if isinstance(node, ast.Call) and isinstance(node.func, ast.Attribute):
                self.assertIn(node.func.attr, METHODS | own, (name, node.lineno))
            elif isinstance(node, ast.Attribute) and node.attr not in METHODS | own:
                self.assertIn(node.attr, stored, (name, node.lineno))

    def test_attributes(self):
        barred = set("""items keys values pop update append clear extend insert remove reverse setdefault sort args
            encode decode hex fromhex format""".split())
        classes = [node for _, node in self.nodes if isinstance(node, ast.ClassDef)]
        methods = {part.name for node in classes for part in node.body if isinstance(part, ast.FunctionDef)}
        for name, node in self.nodes:
            if isinstance(node, ast.ClassDef):
                stored = {part.attr for part in ast.walk(node)
                          if isinstance(part, ast.Attribute) and isinstance(part.ctx, ast.Store)}
                self.assertFalse(stored & barred, (name, node.name))
                self.assertFalse(stored & methods, (name, node.name))

    def test_generator_expressions(self):
        for name, tree in self.trees.items():
            direct = {id(node.args[0]) for node in ast.walk(tree) if isinstance(node, ast.Call) and node.args
                      and isinstance(node.func, ast.Name) and node.func.id in ("all", "any")}
            for node in ast.walk(tree):
                if isinstance(node, ast.GeneratorExp):
                    self.assertIn(id(node), direct, (name, node.lineno))

    def test_iterated_at_once(self):
        views = {"zip", "enumerate", "reversed"}
        for name, tree in self.trees.items():
            allowed = set()
            for node in ast.walk(tree):
                if isinstance(node, (ast.For, ast.comprehension)):
                    allowed.add(id(node.iter))
                elif isinstance(node, ast.Call) and isinstance(node.func, ast.Name):
                    if node.func.id in ("list", "tuple", "sorted", "dict", "enumerate") and node.args:
                        allowed.add(id(node.args[0]))
            for node in ast.walk(tree):
                if isinstance(node, ast.Call) and isinstance(node.func, ast.Name) and node.func.id in views:
                    self.assertIn(id(node), allowed, (name, node.lineno))

    def test_values(self):
        for name, tree in self.trees.items():
            told = docstrings(tree)
            for node in ast.walk(tree):
                if isinstance(node, ast.Constant):
                    self.assertNotIsInstance(node.value, (float, complex, bytes), (name, node.lineno))
                    if isinstance(node.value, str):
                        self.assertNotIn("%", node.value, (name, node.lineno))
                        if id(node) not in told:
                            self.assertIsNone(re.search(WORDS, node.value), (name, node.lineno))
                if isinstance(node, (ast.Set, ast.SetComp, ast.NamedExpr, ast.JoinedStr)):
                    self.assertIsInstance(node, ast.JoinedStr, name)
                if isinstance(node, ast.BinOp) and isinstance(node.op, ast.Pow):
                    self.assertIsInstance(node.right, ast.Constant, name)

    def test_is(self):
        for name, node in self.nodes:
            if isinstance(node, ast.Compare):
                for sign, other in zip(node.ops, node.comparators):
                    if isinstance(sign, (ast.Is, ast.IsNot)):
                        self.assertIn(getattr(other, "value", 0), (None, True, False), (name, node.lineno))

    def test_errors_are_created_where_they_are_raised(self):
        for name, node in self.nodes:
            if isinstance(node, ast.Raise):
                self.assertIsInstance(node.exc, ast.Call, name)
                self.assertIsInstance(node.exc.func, ast.Name, name)
            if isinstance(node, ast.ExceptHandler):
                caught = node.type.elts if isinstance(node.type, ast.Tuple) else [node.type]
                for error in caught:
                    self.assertIsInstance(error, ast.Name, name)
                    self.assertRegex(error.id, r"^(Bad|By|Key|ZeroDivision)", name)


if __name__ == "__main__":
    unittest.main()
