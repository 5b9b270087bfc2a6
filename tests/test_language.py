"""The limits of LANGUAGE.md that can be read off the files of the package."""

import ast
import builtins
import pathlib
import sys
import unittest

PACKAGE = pathlib.Path(__file__).parent.parent / "blackbars"
BUILTINS = {
    "len", "range", "enumerate", "zip", "min", "max", "sum", "abs", "sorted", "reversed", "int", "str", "bool",
    "list", "tuple", "dict", "set", "isinstance", "ord", "repr", "any", "all", "divmod", "map", "iter", "next",
    "super", "property", "NotImplemented", "ValueError", "KeyError", "IndexError", "TypeError",
}
LIBRARY = ("heapq", "math", "itertools", "collections")
CHANGING = ("append", "clear", "extend", "insert", "pop", "remove", "reverse", "setdefault", "sort", "update")
NODES = (
    ast.Global, ast.AsyncFunctionDef, ast.AsyncFor, ast.AsyncWith, ast.Await, ast.Import, ast.Div, ast.MatMult,
)


def parts_of(tree, kind):
    return [node for node in ast.walk(tree) if isinstance(node, kind)]


class LanguageTest(unittest.TestCase):
    def files(self):
        files = sorted(path for path in PACKAGE.iterdir() if path.name != "__pycache__")
        self.assertGreater(len(files), 1)
        return [(path, path.read_text(encoding="utf-8")) for path in files]

    def test_files(self):
        for path, _ in self.files():
            self.assertRegex(path.name, r"\A[a-z0-9_]+\.py\Z")
            self.assertNotIn(path.stem, sys.stdlib_module_names)

    def test_sizes_and_characters(self):
        for path, text in self.files():
            lines = text.splitlines()
            self.assertLessEqual(len(lines), 399, path)
            self.assertLessEqual(max(map(len, lines)), 120, path)
            self.assertLessEqual(set(text), {"\n", *map(chr, range(32, 127))}, path)
            for function in parts_of(ast.parse(text), ast.FunctionDef):
                self.assertLessEqual(function.end_lineno - function.lineno + 1, 40, (path, function.name))

    def test_imports(self):
        for path, text in self.files():
            for node in parts_of(ast.parse(text), ast.ImportFrom):
                self.assertEqual(node.level, 0, path)
                if node.module in LIBRARY:
                    continue
                self.assertEqual(node.module.split(".")[0], "blackbars", path)
                target = ast.parse((PACKAGE / (node.module.split(".")[1] + ".py")).read_text(encoding="utf-8"))
                self.assertLessEqual({alias.name for alias in node.names}, defined_names(target), path)

    def test_statements_and_values(self):
        for path, text in self.files():
            tree = ast.parse(text)
            self.assertEqual(parts_of(tree, NODES), [], path)
            for node in parts_of(tree, ast.Constant):
                self.assertNotIsInstance(node.value, (float, complex), path)

    def test_builtins(self):
        for path, text in self.files():
            tree = ast.parse(text)
            names = parts_of(tree, ast.Name)
            stored = {node.id for node in names if isinstance(node.ctx, ast.Store)}
            stored |= {node.arg for node in parts_of(tree, ast.arg)} | bound_names(tree)
            loaded = {node.id for node in names if isinstance(node.ctx, ast.Load)}
            self.assertLessEqual(loaded - stored, BUILTINS, path)
            # An interactive example leaves its last answer there as _.
            self.assertEqual(stored & set(dir(builtins)) - {"_"}, set(), path)

    def test_local_names(self):
        # No parameter or local variable has the name of an import or a class of its file.
        for path, text in self.files():
            tree = ast.parse(text)
            taken = {alias.name for node in parts_of(tree, ast.ImportFrom) for alias in node.names}
            taken |= {node.name for node in parts_of(tree, ast.ClassDef)}
            local = {node.arg for node in parts_of(tree, ast.arg)}
            local |= {node.id for node in parts_of(tree, ast.Name) if isinstance(node.ctx, ast.Store)}
            self.assertEqual(taken & local, set(), path)

    def test_names_of_classes(self):
        # Apart from errors, no name is a method, an attribute and a property of classes at a time.
        methods, properties, attributes = set(), set(), set()
        for path, text in self.files():
            tree = ast.parse(text)
            for function in [part for made in parts_of(tree, ast.ClassDef) for part in made.body]:
                if isinstance(function, ast.FunctionDef):
                    (properties if function.decorator_list else methods).add(function.name)
            attributes |= {node.attr for node in parts_of(tree, ast.Attribute) if isinstance(node.ctx, ast.Store)}
        self.assertEqual(methods & properties, set())
        self.assertEqual((methods | properties) & attributes, set())
        self.assertEqual(properties, {"views", "secrets", "sightings"})

    def test_calls(self):
        # A desk is to have a method add, beside which no set is added to; and lists are sorted by sorted.
        for path, text in self.files():
            called = {node.func.attr for node in parts_of(ast.parse(text), ast.Call)
                      if isinstance(node.func, ast.Attribute)}
            self.assertEqual(called & {"add", "discard", "sort", "format", "union"}, set(), path)

    def test_operators_change_nothing(self):
        # L5 and L28: what operators, == and properties call, read by names alone, assigns and keeps nothing.
        called = {}
        for path, text in self.files():
            for node in parts_of(ast.parse(text), (ast.FunctionDef, ast.ClassDef)):
                called.setdefault(node.name, []).append(node)
        todo = [node for nodes in called.values() for node in nodes if is_plain(node)]
        self.assertGreater(len(todo), 6)
        reached = {id(node): node for node in todo}
        while todo:
            for name in called_names(todo.pop()):
                for node in called.get(name, ()):
                    for part in begun_by(node):
                        if id(part) not in reached:
                            reached[id(part)] = part
                            todo.append(part)
        for node in reached.values():
            self.assertEqual(kept_by(node), [], node.name)

    def test_generator_expressions(self):
        # Classes with == and other operators are to come: any, all and sorted take lists beside them.
        for path, text in self.files():
            self.assertEqual(parts_of(ast.parse(text), ast.GeneratorExp), [], path)


def is_plain(node):
    """Return whether a function is an operator's method, == or a property."""
    if not isinstance(node, ast.FunctionDef):
        return False
    if node.name.startswith("__"):
        return node.name not in ("__init__", "__call__", "__iter__", "__enter__", "__exit__")
    return "property" in [name.id for name in node.decorator_list if isinstance(name, ast.Name)]


def called_names(function):
    """Return the names of all that a function calls, those of methods of whatever object too."""
    names = [node.func for node in parts_of(function, ast.Call)]
    return {name.attr if isinstance(name, ast.Attribute) else name.id for name in names
            if isinstance(name, (ast.Attribute, ast.Name))}


def begun_by(node):
    """Return the list of the functions that run if a function, or a class, is called."""
    if isinstance(node, ast.FunctionDef):
        return [node]
    return [part for part in node.body if isinstance(part, ast.FunctionDef) and part.name == "__init__"]


def kept_by(function):
    """Return what a function changes of attributes and of items of them, its own object's in __init__ aside."""
    found = []
    changed = [node.func for node in parts_of(function, ast.Call)
               if isinstance(node.func, ast.Attribute) and node.func.attr in CHANGING]
    for node in parts_of(function, (ast.Attribute, ast.Subscript)):
        if isinstance(node.ctx, ast.Load) and node not in changed:
            continue
        owner = node.value if isinstance(node, ast.Subscript) or node in changed else node
        while isinstance(owner, ast.Subscript):
            owner = owner.value
        if isinstance(owner, ast.Attribute) and function.name != "__init__":
            found.append(ast.unparse(node))
    return found


def bound_names(tree):
    """Return the names that a file binds at module level, those of imports included."""
    return defined_names(tree) | {alias.name for node in parts_of(tree, ast.ImportFrom) for alias in node.names}


def defined_names(tree):
    """Return the names that a file itself defines at module level."""
    names = set()
    for node in tree.body:
        if isinstance(node, (ast.FunctionDef, ast.ClassDef)):
            names.add(node.name)
        elif isinstance(node, ast.Assign):
            names |= {target.id for target in node.targets}
    return names


if __name__ == "__main__":
    unittest.main()
