"""The rules of the language subset that a program can see, and the places of the names of the interface."""

import ast
import builtins
import pathlib
import re
import unittest

PACKAGE = pathlib.Path(__file__).resolve().parent.parent / "spanrows"
FILES = sorted(PACKAGE.rglob("*.py"))
INTERFACE = {
    "errors": ["SpanError", "BadRow", "BadCount", "BadSpan", "BadPieces", "TooManyPieces", "BadCommand", "Clash",
               "BadCell", "BadContent", "Gone", "Ring", "Full", "BadDeed", "BadName", "Taken", "BadText", "NoName",
               "NothingLeft"],
    "layouts": ["composed", "clash", "merged", "labels_of", "Layout"],
    "scripts": ["check_script", "run"],
    "spans": ["is_span", "carried", "sources", "difference", "is_difference", "gone_spans"],
    "needs": ["needed_labels", "breaks", "fewest", "bound", "check_bound"],
    "plans": ["steps_of", "plan", "shortened"],
    "grids": ["check_grid_script", "run_grid", "carried_box", "difference_box", "fewest_grid", "plan_grid", "Grid"],
    "cells": ["Sheet"],
    "watches": ["Watch", "Journal", "Alarm"],
    "books": ["is_name", "Book"],
    "texts": ["layout_text", "script_text", "parse_script"],
    "console": ["Console"],
}
METHODS = {
    "Layout": ["plain", "read", "top", "tail", "shift", "pieces", "row", "where", "__eq__", "__len__", "__repr__",
               "__str__"],
    "Grid": ["plain", "rows", "columns", "__eq__", "__repr__"],
    "Sheet": ["put", "erase", "content", "cells", "value", "apply", "apply_all", "twin", "__eq__", "__len__",
              "__repr__"],
    "Watch": ["__init__", "note"],
    "Journal": ["note", "told"],
    "Alarm": ["note", "told"],
    "Book": ["__init__", "depth", "change_depth", "do", "do_all", "undo", "redo", "steps", "names", "span", "layout",
             "attach", "twin", "__eq__", "__len__", "__repr__"],
    "Console": ["__init__", "book", "run", "__len__"],
}
ALLOWED_BUILTINS = set("""len range enumerate zip min max sum abs sorted reversed int str bool list tuple dict set
    isinstance ord repr any all divmod Exception ValueError TypeError KeyError IndexError LookupError
    ZeroDivisionError NotImplemented iter next super property staticmethod classmethod""".split())
ALLOWED_METHODS = set("""append clear copy count endswith extend find get index insert isalnum isalpha isdigit islower
    isspace isupper items join keys ljust lower lstrip partition pop remove replace reverse rfind rjust rpartition rsplit
    rstrip setdefault split splitlines startswith strip update upper values zfill bit_length add discard""".split())
BARRED_WORDS = re.compile(r"\b(type|typing|typing_extensions|enum|Enum|IntEnum|StrEnum|Flag|IntFlag|Generic|Protocol|ABC"
                          r"|ABCMeta|namedtuple|NamedTuple|TypedDict|TYPE_CHECKING|abstractmethod)\b"
                          r"|dataclass|overload|contextmanager")
DUNDERS = {"__init__", "__eq__", "__repr__", "__str__", "__len__"}
BARRED_NODES = (ast.Import, ast.Global, ast.AsyncFunctionDef, ast.Await, ast.AsyncFor, ast.AsyncWith)


def tree_of(path):
    return ast.parse(path.read_text(encoding="utf-8"))


def module_of(path):
    return ".".join(path.relative_to(PACKAGE.parent).with_suffix("").parts)


def top_names(path):
    names = []
    for node in tree_of(path).body:
        if isinstance(node, (ast.FunctionDef, ast.ClassDef)):
            names.append(node.name)
        if isinstance(node, ast.Assign):
            names += [target.id for target in node.targets]
    return names


def nodes(kinds):
    for path in FILES:
        for node in ast.walk(tree_of(path)):
            if isinstance(node, kinds):
                yield path.name, node


class Files(unittest.TestCase):
    def test_only_python_files(self):
        others = [path for path in PACKAGE.rglob("*") if path.suffix != ".py" and "__pycache__" not in path.parts]
        self.assertEqual(others, [])
        self.assertIn(PACKAGE / "__init__.py", FILES)

    def test_characters_sizes_and_words(self):
        for path in FILES:
            text = path.read_text(encoding="utf-8")
            self.assertEqual(set(text) - set(map(chr, range(32, 127))) - {"\n"}, set(), path)
            lines = text.split("\n")
            self.assertLessEqual(len(lines), 399, path)
            self.assertLessEqual(max(map(len, lines)), 120, path)
            self.assertIsNone(BARRED_WORDS.search(text), path)

    def test_function_sizes(self):
        for name, node in nodes(ast.FunctionDef):
            self.assertLessEqual(node.end_lineno - node.lineno + 1, 40, (name, node.name))


class Imports(unittest.TestCase):
    def test_names_come_from_the_file_that_defines_them(self):
        by_module = {module_of(path): top_names(path) for path in FILES}
        for name, node in nodes(ast.ImportFrom):
            self.assertEqual(node.level, 0, name)
            for item in node.names:
                self.assertIn(item.name, by_module[node.module], name)
                self.assertIsNone(item.asname)

    def test_all_imported_names_are_used(self):
        for path in FILES:
            tree = tree_of(path)
            used = {node.id for node in ast.walk(tree) if isinstance(node, ast.Name)}
            for node in ast.walk(tree):
                if isinstance(node, ast.ImportFrom):
                    self.assertEqual({item.name for item in node.names} - used, set(), path)

    def test_no_circles(self):
        imports = {module_of(path): {node.module for node in ast.walk(tree_of(path))
                                     if isinstance(node, ast.ImportFrom)} for path in FILES}
        while imports:
            free = [name for name, needed in imports.items() if not needed & set(imports)]
            self.assertNotEqual(free, [], imports)
            for name in free:
                del imports[name]

    def test_interface_names_are_defined_in_their_files(self):
        for module, names in INTERFACE.items():
            tree = tree_of(PACKAGE / f"{module}.py")
            defined = [node.name for node in tree.body if isinstance(node, (ast.FunctionDef, ast.ClassDef))]
            self.assertEqual(set(names) - set(defined), set(), module)

    def test_methods_of_the_interface_are_defined_in_their_classes(self):
        bodies = {node.name: [part.name for part in node.body if isinstance(part, ast.FunctionDef)]
                  for name, node in nodes(ast.ClassDef)}
        for name, methods in METHODS.items():
            self.assertEqual(set(methods) - set(bodies[name]), set(), name)


class Code(unittest.TestCase):
    def test_barred_nodes(self):
        self.assertEqual([(name, node.lineno) for name, node in nodes(BARRED_NODES)], [])
        self.assertEqual([name for name, node in nodes(ast.Div)], [])

    def test_literals(self):
        for name, node in nodes(ast.Constant):
            self.assertNotIsInstance(node.value, (float, complex), name)
            if isinstance(node.value, str):
                self.assertNotIn("%", node.value, name)

    def test_names(self):
        for name, node in nodes((ast.Name, ast.FunctionDef, ast.ClassDef, ast.arg, ast.Attribute)):
            word = next(getattr(node, field) for field in ("id", "name", "arg", "attr") if hasattr(node, field))
            self.assertTrue(word in DUNDERS or not word.startswith("_"), (name, word))
            if isinstance(node, ast.Name):
                self.assertTrue(word in ALLOWED_BUILTINS or not hasattr(builtins, word), (name, word))
            elif isinstance(node, (ast.arg, ast.ClassDef)):
                self.assertFalse(hasattr(builtins, word), (name, word))

    def test_builtins_are_not_assigned(self):
        for name, node in nodes(ast.Name):
            if not isinstance(node.ctx, ast.Load):
                self.assertFalse(hasattr(builtins, node.id), (name, node.id))

    def test_no_local_name_of_a_class_or_an_import(self):
        for path in FILES:
            tree = tree_of(path)
            taken = {node.name for node in tree.body if isinstance(node, ast.ClassDef)}
            for node in tree.body:
                if isinstance(node, ast.ImportFrom):
                    taken |= {item.name for item in node.names}
            local = {node.arg for node in ast.walk(tree) if isinstance(node, ast.arg)}
            local |= {node.id for node in ast.walk(tree) if isinstance(node, ast.Name) and
                      not isinstance(node.ctx, ast.Load)}
            self.assertEqual(taken & local, set(), path)

    def test_methods(self):
        own = {node.name for name, node in nodes(ast.FunctionDef)}
        for name, node in nodes(ast.Call):
            if isinstance(node.func, ast.Attribute):
                self.assertIn(node.func.attr, own | ALLOWED_METHODS, name)

    def test_no_name_is_a_method_and_an_attribute(self):
        methods = {part.name for name, node in nodes(ast.ClassDef) for part in node.body
                   if isinstance(part, ast.FunctionDef)}
        stored = {node.attr for name, node in nodes(ast.Attribute) if isinstance(node.ctx, ast.Store)}
        read = {node.attr for name, node in nodes(ast.Attribute) if isinstance(node.ctx, ast.Load)}
        values = {target.id for name, node in nodes(ast.ClassDef) for part in node.body
                  if isinstance(part, ast.Assign) for target in part.targets}
        # A property with a setter is assigned like an attribute.
        self.assertEqual((methods - {"depth"}) & stored, set())
        self.assertEqual(read - stored - methods - values - ALLOWED_METHODS, {"setter"})

    def test_decorators(self):
        properties, setters = set(), set()
        for name, node in nodes(ast.ClassDef):
            self.assertEqual(node.decorator_list, [], name)
            for part in node.body:
                for mark in getattr(part, "decorator_list", []):
                    if isinstance(mark, ast.Attribute):
                        self.assertEqual((mark.value.id, mark.attr), (part.name, "setter"), name)
                        setters.add(part.name)
                    else:
                        self.assertIn(mark.id, ("property", "classmethod"), name)
                        properties |= {part.name} if mark.id == "property" else set()
        self.assertEqual(setters, {"depth"})
        self.assertLess(setters, properties)

    def test_super_only_calls_a_method(self):
        called = {(name, node.func.value.lineno) for name, node in nodes(ast.Call)
                  if isinstance(node.func, ast.Attribute) and isinstance(node.func.value, ast.Call)}
        for name, node in nodes(ast.Call):
            if isinstance(node.func, ast.Name) and node.func.id == "super":
                self.assertEqual((node.args, node.keywords), ([], []))
                self.assertIn((name, node.lineno), called)

    def test_double_underscore_methods(self):
        for name, node in nodes(ast.FunctionDef):
            if node.name in ("__len__", "__repr__", "__str__"):
                self.assertIsInstance(node.body[-1], ast.Return, (name, node.name))
                value = node.body[-1].value
                if node.name == "__len__":
                    self.assertEqual(value.func.id, "len", name)
            if node.name == "__init__":
                returns = [part for part in ast.walk(node) if isinstance(part, ast.Return)]
                self.assertEqual(returns, [], name)

    def test_module_level(self):
        for path in FILES:
            names = []
            for node in tree_of(path).body:
                self.assertIsInstance(node, (ast.Expr, ast.ImportFrom, ast.FunctionDef, ast.ClassDef, ast.Assign), path)
                if isinstance(node, ast.Expr):
                    self.assertIsInstance(node.value.value, str, path)
                if isinstance(node, ast.ImportFrom):
                    names += [item.name for item in node.names]
            names += top_names(path)
            self.assertEqual(len(names), len(set(names)), path)

    def test_no_list_or_dict_at_module_level_is_changed(self):
        for path in FILES:
            tables = {node.targets[0].id for node in tree_of(path).body
                      if isinstance(node, ast.Assign) and isinstance(node.value, (ast.List, ast.Dict))}
            for node in ast.walk(tree_of(path)):
                if isinstance(node, ast.Subscript) and isinstance(node.value, ast.Name) and node.value.id in tables:
                    self.assertIsInstance(node.ctx, ast.Load, path)
                if isinstance(node, ast.Attribute) and isinstance(node.value, ast.Name) and node.value.id in tables:
                    self.assertIn(node.attr, ("get", "items", "keys", "values"), path)

    def test_is_only_with_none_true_and_false(self):
        for name, node in nodes(ast.Compare):
            for sign, right in zip(node.ops, node.comparators):
                if isinstance(sign, (ast.Is, ast.IsNot)):
                    self.assertTrue(isinstance(right, ast.Constant) and right.value in (None, True, False), name)

    def test_generators_are_iterated_at_once(self):
        makers = {node.name for name, node in nodes(ast.FunctionDef)
                  if any(isinstance(part, ast.Yield) for part in ast.walk(node))}
        self.assertEqual(makers, {"labels_of", "steps_of"})
        iterated = []
        for name, node in nodes((ast.For, ast.Call)):
            if isinstance(node, ast.For):
                iterated.append(node.iter)
            elif isinstance(node.func, ast.Name) and node.func.id in ("list", "tuple"):
                iterated += node.args
        allowed = {(part.lineno, part.col_offset) for part in iterated}
        for name, node in nodes(ast.Call):
            if isinstance(node.func, ast.Name) and node.func.id in makers:
                self.assertIn((node.lineno, node.col_offset), allowed, name)

    def test_comprehensions_only_in_functions(self):
        for path in FILES:
            for node in tree_of(path).body:
                if not isinstance(node, (ast.FunctionDef, ast.ClassDef)):
                    kinds = {part.__class__ for part in ast.walk(node)}
                    self.assertFalse(kinds & {ast.ListComp, ast.DictComp, ast.SetComp, ast.Lambda, ast.Call}, path)

    def test_lists_instead_of_generator_expressions(self):
        self.assertEqual([(name, node.lineno) for name, node in nodes(ast.GeneratorExp)], [])

    def test_only_own_and_lookup_errors_are_caught(self):
        own = set(INTERFACE["errors"])
        for name, node in nodes(ast.ExceptHandler):
            caught = node.type.elts if isinstance(node.type, ast.Tuple) else [node.type]
            self.assertLessEqual({item.id for item in caught}, own | {"KeyError"}, name)

    def test_raise_creates_an_own_error(self):
        own = set(INTERFACE["errors"])
        for name, node in nodes(ast.Raise):
            self.assertIsInstance(node.exc, ast.Call, (name, node.lineno))
            self.assertIn(node.exc.func.id, own, (name, node.lineno))


if __name__ == "__main__":
    unittest.main()
