"""Rules of the language that the package is written in, as far as they can be read off its files."""

import ast
import builtins
import pathlib
import unittest

FOLDER = pathlib.Path(__file__).resolve().parent.parent / "levelkin"
FILES = sorted(FOLDER.rglob("*.py"))
NODES = (
    ast.Module, ast.ImportFrom, ast.alias, ast.FunctionDef, ast.ClassDef, ast.arguments, ast.arg, ast.Expr,
    ast.Constant, ast.Assign, ast.AugAssign, ast.If, ast.While, ast.For, ast.Return, ast.Break, ast.Continue,
    ast.Pass, ast.Raise,
    ast.Name, ast.Attribute, ast.Subscript, ast.Slice, ast.Starred, ast.Tuple, ast.List, ast.Dict, ast.ListComp,
    ast.DictComp, ast.SetComp, ast.comprehension, ast.Call, ast.keyword, ast.Compare, ast.BoolOp, ast.BinOp,
    ast.UnaryOp, ast.IfExp, ast.Load, ast.Store, ast.Del, ast.Delete, ast.And, ast.Or, ast.Not, ast.USub, ast.Add,
    ast.Sub, ast.Mult, ast.FloorDiv, ast.Mod, ast.BitAnd, ast.BitOr, ast.BitXor, ast.LShift, ast.RShift, ast.Eq,
    ast.NotEq, ast.Lt, ast.LtE, ast.Gt, ast.GtE, ast.Is, ast.IsNot, ast.In, ast.NotIn, ast.JoinedStr,
    ast.FormattedValue, ast.Try, ast.ExceptHandler,
)
# What may be imported from Python itself.
LIBRARY = {"math": ("gcd",)}
BUILTINS = (
    "len range enumerate zip min max sum abs sorted reversed int str bool list tuple dict set isinstance ord repr any "
    "all divmod ValueError"
).split()
METHODS = (
    "append clear copy count endswith extend find get index insert isalnum isalpha isdigit islower isspace isupper "
    "items join keys ljust lower lstrip partition pop remove replace reverse rfind rjust rpartition rsplit rstrip "
    "setdefault split splitlines startswith strip update upper values zfill bit_length"
).split()
BARRED = (
    "type typing enum Enum Flag Generic Protocol ABC namedtuple register mro elements open input law sys os exec eval "
    "globals locals vars dir id super"
).split()


def trees():
    return [(file, ast.parse(file.read_text())) for file in FILES]


def is_plain_value(node, functions):
    """Whether a value may stand at module level: a plain one, or a tuple or a dict of such and of functions above."""
    if isinstance(node, ast.Constant):
        return True
    if isinstance(node, ast.Tuple):
        return all(isinstance(item, ast.Constant) for item in node.elts)
    if not isinstance(node, ast.Dict):
        return False
    return all(isinstance(key, ast.Constant) for key in node.keys) and all(
        isinstance(item, ast.Constant) or (isinstance(item, ast.Name) and item.id in functions)
        for item in node.values)


def bound_names(tree):
    """All names that a file gives to functions, classes, parameters and variables."""
    for node in ast.walk(tree):
        if isinstance(node, (ast.FunctionDef, ast.ClassDef)):
            yield node.name
        elif isinstance(node, ast.arg):
            yield node.arg
        elif isinstance(node, ast.Name) and not isinstance(node.ctx, ast.Load):
            yield node.id


class Files(unittest.TestCase):
    def test_only_files_of_python_are_there(self):
        self.assertTrue((FOLDER / "__init__.py").is_file())
        for path in FOLDER.rglob("*"):
            if path.name != "__pycache__" and path.parent.name != "__pycache__":
                self.assertEqual((path.is_file(), path.suffix), (True, ".py"), path)
                self.assertEqual(path.name, path.name.lower())

    def test_signs_and_sizes(self):
        for file in FILES:
            text = file.read_bytes()
            self.assertTrue(all(sign == 10 or 32 <= sign <= 126 for sign in text), file)
            rows = text.decode().split("\n")
            self.assertLessEqual(len(rows), 400, file)
            self.assertLessEqual(max(map(len, rows)), 120, file)

    def test_functions_have_at_most_40_lines(self):
        for file, tree in trees():
            for node in ast.walk(tree):
                if isinstance(node, ast.FunctionDef):
                    self.assertLessEqual(node.end_lineno - node.lineno + 1, 40, (file, node.name))


class Statements(unittest.TestCase):
    def test_only_plain_statements_and_expressions(self):
        for file, tree in trees():
            for node in ast.walk(tree):
                where = (file.name, getattr(node, "lineno", 0))
                self.assertIsInstance(node, NODES, where)
                if isinstance(node, ast.Constant):
                    self.assertIn(type(node.value), (int, str, bool, type(None)), where)
                    if isinstance(node.value, str):
                        self.assertNotIn("%", node.value, where)
                if isinstance(node, ast.FunctionDef):
                    self.assertEqual((node.decorator_list, node.returns), ([], None), where)
                if isinstance(node, ast.ClassDef):
                    self.assertEqual((node.decorator_list, node.keywords), ([], []), where)
                if isinstance(node, ast.arg):
                    self.assertIsNone(node.annotation, where)
                if isinstance(node, ast.Compare) and isinstance(node.ops[0], (ast.Is, ast.IsNot)):
                    self.assertIn(ast.unparse(node.comparators[0]), ("None", "True", "False"), where)

    def test_modules_hold_only_docstrings_imports_definitions_and_plain_values(self):
        for file, tree in trees():
            self.assertIsNotNone(ast.get_docstring(tree), file)
            functions = []
            for node in tree.body[1:]:
                self.assertIsInstance(node, (ast.ImportFrom, ast.FunctionDef, ast.ClassDef, ast.Assign), file)
                if isinstance(node, ast.FunctionDef):
                    functions.append(node.name)
                if isinstance(node, ast.Assign):
                    self.assertTrue(is_plain_value(node.value, functions), (file, ast.unparse(node)))
                    self.assertEqual(len(node.targets), 1)

    def test_only_own_errors_are_caught(self):
        errors = [node.name for file, tree in trees() for node in tree.body
                  if file.stem == "errors" and isinstance(node, ast.ClassDef)]
        for file, tree in trees():
            for node in ast.walk(tree):
                if isinstance(node, ast.Try):
                    self.assertEqual((node.orelse, node.finalbody), ([], []), file)
                if isinstance(node, ast.ExceptHandler):
                    caught = node.type.elts if isinstance(node.type, ast.Tuple) else [node.type]
                    self.assertTrue(all(one.id in errors for one in caught), (file, node.lineno))

    def test_imports_name_what_is_defined_there(self):
        seen = []
        names = {file.stem: tree for file, tree in trees()}
        for file, tree in trees():
            for node in ast.walk(tree):
                if isinstance(node, ast.ImportFrom) and node.module in LIBRARY:
                    self.assertEqual(node.level, 0)
                    self.assertTrue(all(one.name in LIBRARY[node.module] and not one.asname for one in node.names))
                elif isinstance(node, ast.ImportFrom):
                    self.assertEqual((node.level, node.module.split(".")[0]), (0, "levelkin"), file)
                    there = names[node.module.split(".")[1]].body
                    defined = [one.name for one in there if isinstance(one, (ast.FunctionDef, ast.ClassDef))]
                    defined += [one.targets[0].id for one in there if isinstance(one, ast.Assign)]
                    self.assertTrue(all(one.name in defined and one.asname is None for one in node.names), file)
                    seen.append((file.stem, node.module.split(".")[1]))
        left = sorted(set(seen))
        while left:
            # A file that imports nothing that is left can be taken away; in a ring of imports there is none.
            over = [pair for pair in left if pair[1] not in {one for one, _ in left}]
            self.assertTrue(over, left)
            left = [pair for pair in left if pair not in over]

    def test_a_name_is_bound_once_in_a_file(self):
        for file, tree in trees():
            names = []
            for node in tree.body:
                if isinstance(node, ast.ImportFrom):
                    names.extend(one.name for one in node.names)
                elif isinstance(node, (ast.FunctionDef, ast.ClassDef)):
                    names.append(node.name)
                elif isinstance(node, ast.Assign):
                    names.append(node.targets[0].id)
            self.assertEqual(len(names), len(set(names)), file)


class Names(unittest.TestCase):
    def test_names_that_are_bound(self):
        for file, tree in trees():
            for name in bound_names(tree):
                if name not in ("__init__", "__eq__"):
                    self.assertFalse(hasattr(builtins, name), (file, name))
                    self.assertFalse(name.startswith("__"), (file, name))
                self.assertNotIn(name, BARRED, file)
                self.assertTrue(name.isascii(), (file, name))

    def test_names_that_are_read(self):
        for file, tree in trees():
            for node in ast.walk(tree):
                if isinstance(node, ast.Name) and isinstance(node.ctx, ast.Load) and hasattr(builtins, node.id):
                    self.assertIn(node.id, BUILTINS, file)

    def test_locals_are_called_like_no_class_or_import(self):
        for file, tree in trees():
            taken = set()
            for node in tree.body:
                if isinstance(node, ast.ImportFrom):
                    taken.update(one.name for one in node.names)
                elif isinstance(node, ast.ClassDef):
                    taken.add(node.name)
            for top in tree.body:
                for node in ast.walk(top):
                    if isinstance(node, ast.arg):
                        self.assertNotIn(node.arg, taken, file)
                    elif isinstance(node, ast.Name) and not isinstance(node.ctx, ast.Load):
                        self.assertNotIn(node.id, taken, file)

    def test_methods_that_are_called(self):
        own = [node.name for _, tree in trees() for node in ast.walk(tree) if isinstance(node, ast.FunctionDef)]
        for file, tree in trees():
            for node in ast.walk(tree):
                if isinstance(node, ast.Call) and isinstance(node.func, ast.Attribute):
                    self.assertIn(node.func.attr, METHODS + own, file)
                    self.assertEqual(node.keywords, [], file)

    def test_sets_stand_only_where_they_may(self):
        for file, tree in trees():
            right = []
            for node in ast.walk(tree):
                if isinstance(node, ast.Call) and isinstance(node.func, ast.Name) and node.func.id in ("sorted", "len"):
                    right.extend(node.args)
            for node in ast.walk(tree):
                made = isinstance(node, ast.SetComp) or (
                    isinstance(node, ast.Call) and isinstance(node.func, ast.Name) and node.func.id == "set")
                if made:
                    self.assertIn(node, right, (file, node.lineno))


if __name__ == "__main__":
    unittest.main()
