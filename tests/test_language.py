"""What can be looked at of the language rules without running the package."""

import ast
import builtins
import pathlib
import unittest

PACKAGE = pathlib.Path(__file__).resolve().parent.parent / "timedoors"
FILES = sorted(PACKAGE.rglob("*.py"))
CALLED_BUILTINS = {
    "len", "range", "enumerate", "zip", "min", "max", "sum", "abs", "sorted", "reversed", "int", "str", "bool", "list",
    "tuple", "dict", "set", "isinstance", "ord", "repr", "any", "all", "divmod", "ValueError",
}
METHODS = {
    "append", "clear", "copy", "count", "endswith", "extend", "find", "get", "index", "insert", "isalnum", "isalpha",
    "isdigit", "items", "join", "keys", "ljust", "lower", "lstrip", "partition", "pop", "remove", "replace", "reverse",
    "rfind", "rjust", "rpartition", "rsplit", "rstrip", "setdefault", "split", "splitlines", "startswith", "strip",
    "update", "upper", "values", "zfill", "bit_length",
}
BARRED_NODES = (
    ast.Global, ast.AsyncFunctionDef, ast.Yield, ast.YieldFrom, ast.GeneratorExp, ast.Div, ast.Try, ast.Lambda,
    ast.Import, ast.Nonlocal, ast.With, ast.Match, ast.NamedExpr, ast.Starred,
)
BARRED_WORDS = {
    "register", "mro", "elements", "open", "input", "law", "version_info", "with_traceback", "add_note", "type",
    "typing", "enum", "compile", "eval", "exec", "exit", "gc", "globals", "id", "locals", "os", "quit", "super", "vars",
    "sys",
}


def tree_of(path):
    return ast.parse(path.read_text(encoding="utf-8"))


def names_defined(tree):
    names = []
    for part in tree.body:
        if isinstance(part, (ast.FunctionDef, ast.ClassDef)):
            names.append(part.name)
        elif isinstance(part, ast.Assign):
            names.extend(target.id for target in part.targets)
        elif isinstance(part, ast.ImportFrom):
            names.extend(told.name for told in part.names)
    return names


def names_bound(tree):
    """Names of functions, classes, parameters and variables."""
    for part in ast.walk(tree):
        if isinstance(part, (ast.FunctionDef, ast.ClassDef)):
            yield part.name
        elif isinstance(part, ast.arg):
            yield part.arg
        elif isinstance(part, ast.Name) and isinstance(part.ctx, ast.Store):
            yield part.id


class Language(unittest.TestCase):

    def each_file(self, check):
        self.assertTrue(FILES)
        for path in FILES:
            with self.subTest(file=path.name):
                check(path, tree_of(path))

    def test_files_and_sizes(self):
        self.assertEqual([path for path in PACKAGE.iterdir() if path.suffix != ".py" and path.name != "__pycache__"], [])

        def check(path, tree):
            text = path.read_text(encoding="ascii")
            self.assertTrue(all(sign == "\n" or " " <= sign <= "~" for sign in text))
            lines = text.split("\n")
            self.assertLessEqual(len(lines) - 1, 399)
            self.assertLessEqual(max(len(line) for line in lines), 120)
            for part in ast.walk(tree):
                if isinstance(part, ast.FunctionDef):
                    self.assertLessEqual(part.end_lineno - part.lineno + 1, 40, part.name)
        self.each_file(check)

    def test_module_level(self):
        def check(path, tree):
            self.assertIsNotNone(ast.get_docstring(tree))
            for part in tree.body[1:]:
                self.assertIsInstance(part, (ast.ImportFrom, ast.FunctionDef, ast.ClassDef, ast.Assign))
            names = names_defined(tree)
            self.assertEqual(len(names), len(set(names)))
        self.each_file(check)

    def test_imports_name_the_file_that_defines(self):
        ahead = {}

        def check(path, tree):
            for part in ast.walk(tree):
                if isinstance(part, ast.ImportFrom):
                    self.assertRegex(part.module, r"^timedoors\.\w+$")
                    source = tree_of(PACKAGE / (part.module.split(".")[1] + ".py"))
                    own = [node for node in source.body if not isinstance(node, ast.ImportFrom)]
                    defined = names_defined(ast.Module(body=own, type_ignores=[]))
                    ahead.setdefault(path.stem, set()).add(part.module.split(".")[1])
                    used = {node.id for node in ast.walk(tree) if isinstance(node, ast.Name)}
                    for told in part.names:
                        self.assertIsNone(told.asname)
                        self.assertIn(told.name, defined)
                        self.assertIn(told.name, used)
        self.each_file(check)
        done = set()
        while len(done) < len(FILES):
            ready = [path.stem for path in FILES if path.stem not in done and ahead.get(path.stem, set()) <= done]
            self.assertTrue(ready, "two files import from each other")
            done.update(ready)

    def test_statements_and_names(self):
        own = {name for path in FILES for name in names_bound(tree_of(path))}

        def check(path, tree):
            for part in ast.walk(tree):
                self.assertNotIsInstance(part, BARRED_NODES)
                if isinstance(part, ast.Call) and isinstance(part.func, ast.Name) and part.func.id not in own:
                    self.assertIn(part.func.id, CALLED_BUILTINS)
                if isinstance(part, ast.Call) and isinstance(part.func, ast.Attribute):
                    self.assertIn(part.func.attr, METHODS | own | {"__init__"})
                if isinstance(part, ast.FunctionDef):
                    self.assertEqual(part.decorator_list, [])
                if isinstance(part, ast.Constant):
                    self.assertNotIsInstance(part.value, (float, complex, bytes))
            imported = {told.name for part in tree.body if isinstance(part, ast.ImportFrom) for told in part.names}
            for name in names_bound(tree):
                self.assertFalse(name not in ("__init__", "__eq__") and hasattr(builtins, name), name)
                self.assertNotIn(name, imported)
                self.assertNotIn(name, BARRED_WORDS)
                self.assertRegex(name, r"^(_|_?[A-Za-z][A-Za-z0-9_]*|__init__|__eq__)$")
        self.each_file(check)

    def test_strings(self):
        def check(path, tree):
            for part in ast.walk(tree):
                if isinstance(part, ast.Constant) and isinstance(part.value, str):
                    self.assertNotIn("%", part.value)
                    self.assertFalse(part.value.startswith("__") or part.value.endswith(("._", ".__")))
        self.each_file(check)

    def test_sets_stand_in_sorted_and_len_alone(self):
        def check(path, tree):
            let = set()
            for part in ast.walk(tree):
                if isinstance(part, ast.Call) and isinstance(part.func, ast.Name) and part.func.id in ("sorted", "len"):
                    let.update(id(told) for told in part.args)
            for part in ast.walk(tree):
                is_call = isinstance(part, ast.Call) and isinstance(part.func, ast.Name) and part.func.id == "set"
                if is_call or isinstance(part, (ast.Set, ast.SetComp)):
                    self.assertIn(id(part), let)
        self.each_file(check)


if __name__ == "__main__":
    unittest.main()
