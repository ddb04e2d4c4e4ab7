"""The rules of shared/LANGUAGE.md that can be read off the files of the package."""

import ast
import builtins
import pathlib
import re
import unittest

PACKAGE = pathlib.Path(__file__).resolve().parent.parent / "cappedcalls"
FILES = sorted(path for path in PACKAGE.rglob("*") if path.is_file() and "__pycache__" not in path.parts)
LIBRARY = {
    "__future__": {"annotations"},
    "heapq": {"heappush", "heappop", "heapify", "heapreplace", "heappushpop"},
    "math": {"gcd", "lcm", "isqrt", "comb", "perm", "factorial"},
    "itertools": {"product", "combinations", "permutations", "chain", "accumulate", "pairwise",
                  "islice", "zip_longest"},
    "collections": {"defaultdict", "deque"},
}
DECORATORS = {"property", "staticmethod", "classmethod"}
BARRED = {"open", "input", "eval", "exec", "compile", "globals", "locals", "vars", "dir", "id", "hash",
          "print", "chr", "format", "round", "filter", "callable", "object", "float", "complex", "slice",
          "memoryview", "bytearray", "issubclass", "help", "delattr", "sort", "register", "elements"}
DUNDERS = {"__init__", "__eq__", "__len__", "__call__", "__iter__", "__or__", "__and__", "__contains__",
           "__getitem__", "__setitem__"}
METHODS = {"append", "clear", "copy", "count", "extend", "find", "get", "index", "insert", "items", "join", "keys",
           "pop", "remove", "setdefault", "split", "startswith", "values", "isdigit"}


def trees():
    for path in FILES:
        yield path.name, ast.parse(path.read_text(encoding="ascii"))


def imports_of(tree):
    return [node for node in ast.walk(tree) if isinstance(node, (ast.Import, ast.ImportFrom))]


class FilesTest(unittest.TestCase):
    def test_the_folder_holds_plain_files_of_python_only(self):
        self.assertIn(PACKAGE / "__init__.py", FILES)
        for path in FILES:
            self.assertRegex(path.name, r"^([a-z][a-z0-9_]*|__init__|__main__)\.py$")

    def test_characters(self):
        for path in FILES:
            for character in path.read_bytes():
                self.assertTrue(character == 10 or 32 <= character <= 126, (path.name, character))

    def test_sizes(self):
        for path in FILES:
            lines = path.read_text(encoding="ascii").split("\n")
            self.assertLessEqual(len(lines), 399, path.name)
            for line in lines:
                self.assertLessEqual(len(line), 120, path.name)

    def test_functions_have_at_most_40_lines(self):
        for name, tree in trees():
            for node in ast.walk(tree):
                if isinstance(node, ast.FunctionDef):
                    self.assertLessEqual(node.end_lineno - node.lineno + 1, 40, (name, node.name))


class ImportsTest(unittest.TestCase):
    def test_forms(self):
        for name, tree in trees():
            for node in imports_of(tree):
                self.assertIsInstance(node, ast.ImportFrom, name)
                self.assertEqual(node.level, 0, name)
                self.assertIn(node, tree.body, name)
                if not node.module.startswith("cappedcalls."):
                    self.assertLessEqual({one.name for one in node.names}, LIBRARY[node.module], name)

    def test_the_file_named_defines_the_name(self):
        defined = {}
        for name, tree in trees():
            found = {node.name for node in tree.body if isinstance(node, (ast.FunctionDef, ast.ClassDef))}
            for node in tree.body:
                if isinstance(node, ast.Assign):
                    found.update(target.id for target in node.targets)
            defined["cappedcalls." + name[:-3]] = found
        for name, tree in trees():
            for node in imports_of(tree):
                if node.module.startswith("cappedcalls."):
                    self.assertLessEqual({one.name for one in node.names}, defined[node.module], name)

    def test_what_is_imported_is_used(self):
        for name, tree in trees():
            used = {node.id for node in ast.walk(tree) if isinstance(node, ast.Name)}
            for node in imports_of(tree):
                self.assertLessEqual({one.name for one in node.names}, used, name)

    def test_no_circle(self):
        uses = {}
        for name, tree in trees():
            uses["cappedcalls." + name[:-3]] = {node.module for node in imports_of(tree)} - set(LIBRARY)
        while uses:
            free = [name for name, used in uses.items() if not used & set(uses)]
            self.assertTrue(free, f"these files import from each other: {sorted(uses)}")
            for name in free:
                del uses[name]


class CodeTest(unittest.TestCase):
    def test_decorators(self):
        for name, tree in trees():
            for node in ast.walk(tree):
                for decorator in getattr(node, "decorator_list", []):
                    self.assertIn(re.sub(r"^\w+\.setter$", "property", ast.unparse(decorator)), DECORATORS, name)

    def test_no_floats_and_no_division(self):
        for name, tree in trees():
            for node in ast.walk(tree):
                self.assertNotIsInstance(node, ast.Div, name)
                self.assertNotIsInstance(getattr(node, "value", None), (float, complex), name)

    def test_barred_words(self):
        for name, tree in trees():
            for node in ast.walk(tree):
                self.assertNotIn(getattr(node, "id", getattr(node, "attr", None)), BARRED, name)

    def test_behind_stars_in_calls_stand_plain_things_only(self):
        plain = (ast.Name, ast.Attribute, ast.Constant, ast.List, ast.Tuple, ast.Dict)
        for name, tree in trees():
            for node in ast.walk(tree):
                if isinstance(node, ast.Call):
                    stars = [one.value for one in node.args if isinstance(one, ast.Starred)]
                    stars += [one.value for one in node.keywords if one.arg is None]
                    for one in stars:
                        self.assertIsInstance(one, plain, (name, node.lineno))

    def test_finally(self):
        def check(name, rows):
            for row in rows:
                if isinstance(row, ast.If):
                    self.assertIsInstance(row.test, ast.Compare, name)
                    self.assertIsInstance(row.test.ops[0], (ast.Is, ast.IsNot), name)
                    check(name, row.body + row.orelse)
                else:
                    self.assertIsInstance(row, ast.Assign, name)
                    for node in ast.walk(row.value):
                        self.assertIsInstance(node, (ast.Name, ast.Attribute, ast.Tuple, ast.Constant, ast.Load), name)

        for name, tree in trees():
            for node in ast.walk(tree):
                if isinstance(node, ast.Try):
                    check(name, node.finalbody)

    def test_functions_of_a_table_are_given_a_name_before_they_are_called(self):
        for name, tree in trees():
            for node in ast.walk(tree):
                if isinstance(node, ast.Call):
                    self.assertIsInstance(node.func, (ast.Name, ast.Attribute), (name, node.lineno))

    def test_lists_and_dicts_at_module_level_are_only_read(self):
        for name, tree in trees():
            own = {target.id for node in tree.body if isinstance(node, ast.Assign) for target in node.targets
                   if isinstance(node.value, (ast.List, ast.Dict))}
            for node in ast.walk(tree):
                if isinstance(node, ast.Call):
                    for one in node.args:
                        self.assertFalse(isinstance(one, ast.Name) and one.id in own, (name, node.lineno))
                if isinstance(node, ast.Return):
                    self.assertFalse(isinstance(node.value, ast.Name) and node.value.id in own, (name, node.lineno))

    def test_words_that_stand_nowhere(self):
        for path in FILES:
            text = path.read_text(encoding="ascii")
            for word in ["(type)", "Meta", "metaclass=", "dataclass", "overload", "contextmanager", "_wall", "typing"]:
                self.assertNotIn(word, text, path.name)
            for word in ["type", "enum", "law", "namedtuple", "Generic", "Protocol"]:
                self.assertNotRegex(text, rf"\b{word}\b", path.name)

    def test_no_percent_sign_in_a_string(self):
        for name, tree in trees():
            for node in ast.walk(tree):
                if isinstance(node, ast.Constant) and isinstance(node.value, str):
                    self.assertNotIn("%", node.value, name)

    def test_a_name_is_no_method_and_attribute_of_one_class(self):
        for name, tree in trees():
            for node in ast.walk(tree):
                if isinstance(node, ast.ClassDef):
                    methods = {one.name for one in node.body if isinstance(one, ast.FunctionDef)}
                    stored = {one.attr for one in ast.walk(node)
                              if isinstance(one, ast.Attribute) and isinstance(one.ctx, ast.Store)}
                    self.assertFalse(methods & stored, (name, node.name))

    def test_module_level(self):
        allowed = (ast.ImportFrom, ast.FunctionDef, ast.ClassDef, ast.Assign)
        for name, tree in trees():
            for node in tree.body:
                text = isinstance(node, ast.Expr) and isinstance(node.value, ast.Constant)
                self.assertTrue(text or isinstance(node, allowed), name)

    def test_raised_errors_are_made_on_the_spot(self):
        for name, tree in trees():
            for node in ast.walk(tree):
                if isinstance(node, ast.Raise) and node.exc is not None:
                    self.assertIsInstance(node.exc, ast.Call, name)
                    self.assertIsInstance(node.exc.func, ast.Name, name)

    def test_no_generator_expressions_sets_and_annotations(self):
        for name, tree in trees():
            for node in ast.walk(tree):
                self.assertNotIsInstance(node, (ast.GeneratorExp, ast.Set, ast.SetComp, ast.AnnAssign), name)
                self.assertIsNone(getattr(node, "annotation", None), name)
                self.assertIsNone(getattr(node, "returns", None), name)

    def test_the_underscore_is_never_read(self):
        for name, tree in trees():
            for node in ast.walk(tree):
                if isinstance(node, ast.Name) and isinstance(node.ctx, ast.Load):
                    self.assertNotEqual(node.id, "_", name)

    def test_no_name_of_a_builtin_and_of_an_import_is_given_another_meaning(self):
        for name, tree in trees():
            imported = {one.name for node in imports_of(tree) for one in node.names}
            classes = {node.name for node in tree.body if isinstance(node, ast.ClassDef)}
            for node in ast.walk(tree):
                own = getattr(node, "arg", None) if isinstance(node, ast.arg) else None
                if isinstance(node, ast.Name) and isinstance(node.ctx, ast.Store):
                    own = node.id
                self.assertNotIn(own, imported | classes | set(dir(builtins)), name)
                if isinstance(node, (ast.FunctionDef, ast.ClassDef)):
                    self.assertNotIn(node.name, dir(builtins), name)

    def test_methods(self):
        own = {node.name for _, tree in trees() for node in ast.walk(tree) if isinstance(node, ast.FunctionDef)}
        for name, tree in trees():
            for node in ast.walk(tree):
                if isinstance(node, ast.Call) and isinstance(node.func, ast.Attribute):
                    self.assertIn(node.func.attr, METHODS | own, name)

    def test_double_underscores(self):
        for name, tree in trees():
            for node in ast.walk(tree):
                if isinstance(node, ast.FunctionDef) and node.name.startswith("__"):
                    self.assertIn(node.name, DUNDERS, name)
                if isinstance(node, ast.ClassDef):
                    found = {one.name for one in node.body if isinstance(one, ast.FunctionDef)}
                    self.assertTrue("__iter__" in found or "__getitem__" not in found, node.name)

    def test_only_own_errors_are_caught(self):
        own = {node.name for name, tree in trees() if name == "errors.py" for node in tree.body
               if isinstance(node, ast.ClassDef)}
        for name, tree in trees():
            for node in ast.walk(tree):
                if isinstance(node, ast.ExceptHandler):
                    caught = node.type.elts if isinstance(node.type, ast.Tuple) else [node.type]
                    self.assertLessEqual({one.id for one in caught}, own | {"KeyError"}, name)


if __name__ == "__main__":
    unittest.main()
