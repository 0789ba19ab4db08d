"""The form of the package's files: the rules of LANGUAGE.md that a look at the code can decide.

The lists below let what the package uses, not all that the rules let: who needs more adds it, after a look at the rule.
"""

import ast
import builtins
import pathlib
import re
import unittest

ROOT = pathlib.Path(__file__).resolve().parent.parent
PACKAGE = ROOT / "squaretimes"
FILES = sorted(PACKAGE.rglob("*.py"))
LIBRARY = {"math": {"gcd", "lcm", "isqrt", "comb", "perm", "factorial"}}
BUILTINS = {
    "len", "range", "enumerate", "zip", "min", "max", "sum", "abs", "sorted", "reversed", "int", "str", "bool", "bytes",
    "list", "tuple", "dict", "set", "isinstance", "ord", "repr", "any", "all", "divmod", "property", "staticmethod",
    "super", "ValueError", "TypeError", "KeyError", "IndexError", "LookupError", "ArithmeticError", "OverflowError",
    "NotImplemented", "iter",
}
METHODS = {
    "append", "count", "endswith", "extend", "get", "index", "insert", "isdigit", "items", "join", "keys", "pop",
    "replace", "split", "startswith", "values", "bit_length", "isascii", "removeprefix", "partition",
}
DOUBLE = {
    "__init__", "__eq__", "__str__", "__len__", "__bool__", "__add__", "__sub__", "__mul__", "__neg__", "__contains__",
    "__call__", "__iter__", "__getitem__",
}
STATEMENTS = (
    ast.Assign, ast.AugAssign, ast.If, ast.While, ast.For, ast.Return, ast.Break, ast.Continue, ast.Raise, ast.Expr,
    ast.FunctionDef, ast.ClassDef, ast.ImportFrom,
)
BARRED = {
    "register", "mro", "elements", "open", "input", "law", "version_info", "with_traceback", "add_note", "type",
    "typing", "enum", "eval", "exec", "vars", "dir", "id", "compile", "globals", "locals", "getattr", "setattr",
    "hasattr",
}


def parsed(path):
    return ast.parse(path.read_text(encoding="utf-8"))


def nodes(kind):
    for path in FILES:
        for node in ast.walk(parsed(path)):
            if isinstance(node, kind):
                yield path, node


def module_of(path):
    parts = path.relative_to(ROOT).with_suffix("").parts
    return ".".join(parts[:-1] if parts[-1] == "__init__" else parts)


def bound_names(tree):
    """The names that a file binds anywhere: parameters, variables, functions, classes, imports."""
    names = set()
    for node in ast.walk(tree):
        if isinstance(node, ast.Name) and isinstance(node.ctx, ast.Store):
            names.add(node.id)
        elif isinstance(node, (ast.FunctionDef, ast.ClassDef)):
            names.add(node.name)
        elif isinstance(node, ast.arg):
            names.add(node.arg)
        elif isinstance(node, ast.alias):
            names.add(node.asname or node.name)
    return names


class Files(unittest.TestCase):
    def test_the_package_holds_plain_files_alone(self):
        for path in PACKAGE.rglob("*"):
            if "__pycache__" not in path.parts:
                pattern = r"[a-z][a-z0-9_]*" if path.is_dir() else r"([a-z][a-z0-9_]*|__init__)\.py"
                self.assertRegex(path.name, "^" + pattern + "$")
                self.assertTrue(not path.is_dir() or (path / "__init__.py").is_file(), path)

    def test_sizes_and_characters(self):
        for path in FILES:
            text = path.read_text(encoding="utf-8")
            self.assertRegex(text, r"\A[ -~\n]*\Z", path)
            lines = text.splitlines()
            self.assertLess(len(lines), 400, path)
            self.assertLessEqual(max(map(len, lines), default=0), 120, path)
        for path, node in nodes(ast.FunctionDef):
            self.assertLessEqual(node.end_lineno - node.lineno + 1, 40, (path, node.name))

    def test_every_file_and_function_of_a_module_has_a_docstring(self):
        for path in FILES:
            tree = parsed(path)
            self.assertTrue(ast.get_docstring(tree), path)
            for node in tree.body:
                if isinstance(node, (ast.FunctionDef, ast.ClassDef)):
                    self.assertTrue(ast.get_docstring(node), (path, node.name))


class Imports(unittest.TestCase):
    def test_only_full_names_from_the_defining_files(self):
        for path, node in nodes((ast.Import, ast.ImportFrom)):
            self.assertIsInstance(node, ast.ImportFrom, path)
            self.assertEqual(node.level, 0, path)
            if node.module in LIBRARY:
                self.assertLessEqual({name.name for name in node.names}, LIBRARY[node.module], path)
                self.assertTrue(all(name.asname is None for name in node.names), path)
            else:
                source = ROOT.joinpath(*node.module.split(".")).with_suffix(".py")
                self.assertTrue(source.is_file(), (path, node.module))
                defined = {one.name for one in parsed(source).body if isinstance(one, (ast.FunctionDef, ast.ClassDef))}
                for one in parsed(source).body:
                    if isinstance(one, ast.Assign):
                        defined.add(one.targets[0].id)
                self.assertLessEqual({name.name for name in node.names}, defined, path)

    def test_no_circles(self):
        above = {}
        for path, node in nodes(ast.ImportFrom):
            above.setdefault(module_of(path), set()).add(node.module)
        for module in above:
            seen, waiting = set(), list(above[module])
            while waiting:
                one = waiting.pop()
                if one not in seen:
                    seen.add(one)
                    waiting.extend(above.get(one, ()))
            self.assertNotIn(module, seen)

    def test_imports_are_used(self):
        for path in FILES:
            tree = parsed(path)
            used = {node.id for node in ast.walk(tree) if isinstance(node, ast.Name)}
            for node in tree.body:
                if isinstance(node, ast.ImportFrom):
                    self.assertLessEqual({name.asname or name.name for name in node.names}, used, path)


class Code(unittest.TestCase):
    def test_statements(self):
        for path, node in nodes(ast.stmt):
            self.assertIsInstance(node, STATEMENTS, (path, node.lineno))
        barred = (
            ast.YieldFrom, ast.Await, ast.GeneratorExp, ast.Lambda, ast.Set, ast.SetComp, ast.NamedExpr,
            ast.Div,
        )
        for path, node in nodes(barred):
            self.fail((path, node))

    def test_module_level(self):
        for path in FILES:
            for node in parsed(path).body:
                if isinstance(node, ast.Assign):
                    self.assertEqual([type(target) for target in node.targets], [ast.Name], (path, node.lineno))
                elif isinstance(node, ast.Expr):
                    self.assertIsInstance(node.value, ast.Constant, (path, node.lineno))
                else:
                    self.assertIsInstance(node, (ast.FunctionDef, ast.ClassDef, ast.ImportFrom), (path, node.lineno))

    def test_names(self):
        for path in FILES:
            tree = parsed(path)
            bound = bound_names(tree)
            self.assertFalse(bound & (BARRED | set(dir(builtins))), path)
            for name in bound - DOUBLE:
                self.assertRegex(name, r"^_?[A-Za-z][A-Za-z0-9_]*$|^_$", path)
            named = {node.id for node in ast.walk(tree) if isinstance(node, ast.Name)}
            self.assertLessEqual(named - bound, BUILTINS, path)

    def test_attributes_are_own_ones_or_let(self):
        own = set(METHODS) | DOUBLE
        for path, node in nodes((ast.FunctionDef, ast.Attribute)):
            if isinstance(node, ast.FunctionDef):
                own.add(node.name)
            elif isinstance(node.ctx, ast.Store):
                own.add(node.attr)
        for path, node in nodes(ast.Attribute):
            self.assertIn(node.attr, own, (path, node.lineno))

    def test_keywords_of_builtins(self):
        for path, node in nodes(ast.Call):
            if isinstance(node.func, ast.Name) and node.func.id in BUILTINS:
                self.assertLessEqual({word.arg for word in node.keywords}, {"start", "reverse"}, (path, node.lineno))

    def test_strings_and_exponents(self):
        for path, node in nodes((ast.Constant, ast.BinOp, ast.Compare)):
            if isinstance(node, ast.Constant) and isinstance(node.value, str):
                self.assertNotIn("%", node.value, path)
            if isinstance(node, ast.BinOp) and isinstance(node.op, ast.Pow):
                self.assertIn(node.right.value, range(65), (path, node.lineno))
            if isinstance(node, ast.Compare) and isinstance(node.ops[0], (ast.Is, ast.IsNot)):
                self.assertIn(node.comparators[0].value, (None, True, False), (path, node.lineno))

    def test_texts_of_objects_are_plain(self):
        for path, node in nodes(ast.FunctionDef):
            if node.name in ("__str__", "__repr__"):
                self.assertIsInstance(node.body[-1], ast.Return, path)
                for inner in ast.walk(node):
                    self.assertNotIsInstance(inner, ast.Add, (path, node.lineno))
                    if isinstance(inner, ast.Return):
                        told = inner.value
                        name = getattr(told, "func", None)
                        plain = isinstance(told, (ast.JoinedStr, ast.Constant)) or getattr(name, "id", "") == "str"
                        joined = isinstance(name, ast.Attribute) and isinstance(name.value, ast.Constant)
                        self.assertTrue(plain or joined, (path, inner.lineno))

    def test_variables_do_not_have_the_names_of_imports_or_classes(self):
        for path in FILES:
            tree = parsed(path)
            taken = {name.name for node in tree.body if isinstance(node, ast.ImportFrom) for name in node.names}
            taken = taken | {node.name for node in tree.body if isinstance(node, ast.ClassDef)}
            for node in ast.walk(tree):
                if isinstance(node, ast.Name) and isinstance(node.ctx, ast.Store):
                    self.assertNotIn(node.id, taken, (path, node.lineno))
                if isinstance(node, ast.arg):
                    self.assertNotIn(node.arg, taken, (path, node.lineno))

    def test_ranges_and_the_like_are_iterated_at_once(self):
        at_once = {"list", "tuple", "sorted", "sum", "any", "all", "enumerate", "zip", "dict", "min", "max"}
        for path in FILES:
            tree = parsed(path)
            let = set()
            for node in ast.walk(tree):
                if isinstance(node, (ast.For, ast.comprehension)):
                    let.add(node.iter)
                elif isinstance(node, ast.Call) and isinstance(node.func, ast.Name) and node.func.id in at_once:
                    let.update(node.args)
            for node in ast.walk(tree):
                if isinstance(node, ast.Call) and isinstance(node.func, ast.Name):
                    if node.func.id in ("range", "zip", "enumerate", "reversed"):
                        self.assertIn(node, let, (path, node.lineno))

    def test_generators_are_plain_and_iterated_at_once(self):
        names = set()
        for path, node in nodes(ast.FunctionDef):
            yields = [one for one in ast.walk(node) if isinstance(one, ast.Yield)]
            told = [one.value for one in ast.walk(node) if isinstance(one, ast.Expr)]
            self.assertTrue(all(one in told for one in yields), (path, node.name))
            if yields:
                names.add(node.name)
                self.assertFalse(node.decorator_list or node.name in DOUBLE, (path, node.name))
                self.assertTrue(all(one.value is None for one in ast.walk(node) if isinstance(one, ast.Return)))
        for path in FILES:
            tree = parsed(path)
            heads = [one.iter for one in ast.walk(tree) if isinstance(one, (ast.For, ast.comprehension))]
            for node in ast.walk(tree):
                if isinstance(node, ast.Name) and node.id in names:
                    self.assertIn(node, [getattr(head, "func", None) for head in heads], (path, node.lineno))

    def test_iter_stands_in_the_method_of_its_name_alone(self):
        for path, node in nodes(ast.FunctionDef):
            asked = [one for one in ast.walk(node) if isinstance(one, ast.Name) and one.id == "iter"]
            if asked or node.name == "__iter__":
                self.assertEqual((node.name, len(node.body), len(asked)), ("__iter__", 1, 1), path)
                self.assertRegex(ast.unparse(node.body[0]), r"^return iter\(self\._[a-z]+\)$", path)

    def test_no_property_has_the_name_of_a_method(self):
        properties, methods = set(), set()
        for _, owner in nodes(ast.ClassDef):
            for node in owner.body:
                if isinstance(node, ast.FunctionDef):
                    words = [word.id for word in node.decorator_list]
                    (properties if "property" in words else methods).add(node.name)
        self.assertFalse(properties & methods)

    def test_comments_are_no_leftovers(self):
        for path in FILES:
            self.assertIsNone(re.search(r"\b(TODO|FIXME|XXX)\b", path.read_text(encoding="utf-8")), path)


if __name__ == "__main__":
    unittest.main()
