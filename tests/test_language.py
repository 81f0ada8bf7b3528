"""The package keeps to the part of Python that it is written in, as far as its text shows it."""

import ast
import builtins
import pathlib
import re
import unittest

PACKAGE = pathlib.Path(__file__).resolve().parent.parent / "turnsteps"

BUILTINS = set("""
len range enumerate zip min max sum abs sorted reversed int str bool list tuple dict set frozenset isinstance ord repr
any all divmod Exception ValueError TypeError KeyError IndexError LookupError ZeroDivisionError ArithmeticError
OverflowError RuntimeError NotImplementedError AttributeError StopIteration
""".split())

METHODS = set("""
append clear copy count endswith extend find get index insert isalnum isalpha isdigit islower isspace isupper items
join keys ljust lower lstrip partition pop remove replace reverse rfind rjust rpartition rsplit rstrip setdefault
split splitlines startswith strip update upper values zfill bit_length
""".split())

# Names that an object's value may not have: what Python's own values have, but for the few that are free.
TAKEN = {name for kind in (str, int, list, dict, set, tuple, bytes) for name in dir(kind)} - set(
    "count index title find get join lower upper split strip copy add".split())

NODES = (
    ast.Module, ast.FunctionDef, ast.arguments, ast.arg, ast.ClassDef, ast.ImportFrom, ast.alias, ast.Return,
    ast.Assign, ast.AugAssign, ast.For, ast.While, ast.If, ast.Break, ast.Continue, ast.Pass, ast.Raise, ast.Try,
    ast.ExceptHandler, ast.Expr, ast.BoolOp, ast.And, ast.Or, ast.BinOp, ast.Add, ast.Sub, ast.Mult, ast.FloorDiv,
    ast.Mod, ast.UnaryOp, ast.USub, ast.Not, ast.Compare, ast.Eq, ast.NotEq, ast.Lt, ast.LtE, ast.Gt, ast.GtE,
    ast.Is, ast.IsNot, ast.In, ast.NotIn, ast.IfExp, ast.Call, ast.keyword, ast.Attribute, ast.Subscript, ast.Slice,
    ast.Name, ast.Load, ast.Store, ast.List, ast.Tuple, ast.Dict, ast.ListComp, ast.comprehension, ast.Constant,
    ast.JoinedStr, ast.FormattedValue,
)

WORDS_OUT = re.compile(
    r"\b(type|typing|typing_extensions|enum|Enum|IntEnum|StrEnum|Flag|IntFlag|Generic|Protocol|ABC|ABCMeta"
    r"|namedtuple|NamedTuple|TypedDict|TYPE_CHECKING|abstractmethod)\b|dataclass|overload|contextmanager")


def files():
    return sorted(PACKAGE.glob("*.py"))


def trees():
    return [(path.name, ast.parse(path.read_text(encoding="utf-8"))) for path in files()]


def nodes(*kinds):
    return [(name, node) for name, tree in trees() for node in ast.walk(tree) if isinstance(node, kinds)]


class Text(unittest.TestCase):
    def test_only_python_files_lie_in_the_package(self):
        names = [path.name for path in PACKAGE.iterdir() if path.name != "__pycache__"]
        self.assertIn("__init__.py", names)
        for name in names:
            self.assertRegex(name, r"^[a-z0-9_]+\.py$")

    def test_signs_and_sizes(self):
        for path in files():
            text = path.read_bytes().decode("ascii")
            self.assertIsNone(re.search(r"[^ -~\n]", text), path.name)
            lines = text.split("\n")
            self.assertLessEqual(len(lines), 400, path.name)
            self.assertLessEqual(max(len(line) for line in lines), 120, path.name)

    def test_words_that_stand_nowhere(self):
        for path in files():
            self.assertIsNone(WORDS_OUT.search(path.read_text(encoding="utf-8")), path.name)

    def test_functions_are_short(self):
        for name, node in nodes(ast.FunctionDef):
            self.assertLessEqual(node.end_lineno - node.lineno + 1, 40, f"{name}: {node.name}")


class Forms(unittest.TestCase):
    def test_nodes(self):
        for name, tree in trees():
            for node in ast.walk(tree):
                self.assertIsInstance(node, NODES, f"{name}:{getattr(node, 'lineno', 0)}")

    def test_plain_values(self):
        for name, node in nodes(ast.Constant):
            self.assertIsInstance(node.value, (int, str, type(None)), f"{name}:{node.lineno}")

    def test_functions_are_plain(self):
        for name, node in nodes(ast.FunctionDef):
            self.assertEqual(node.decorator_list, [])
            self.assertIsNone(node.returns)
            spec = node.args
            self.assertEqual((spec.vararg, spec.kwarg, spec.kwonlyargs, spec.posonlyargs), (None, None, [], []))
            self.assertTrue(all(arg.annotation is None for arg in spec.args))

    def test_classes_are_plain(self):
        for name, node in nodes(ast.ClassDef):
            self.assertEqual((node.decorator_list, node.keywords), ([], []))
            for part in node.body:
                self.assertIsInstance(part, (ast.FunctionDef, ast.Expr), f"{name}: {node.name}")

    def test_no_else_behind_a_loop_and_one_target(self):
        for name, node in nodes(ast.For, ast.While):
            self.assertEqual(node.orelse, [])
        for name, node in nodes(ast.Assign):
            self.assertEqual(len(node.targets), 1)

    def test_comprehensions_have_one_for_and_at_most_one_if(self):
        for name, node in nodes(ast.ListComp):
            self.assertEqual(len(node.generators), 1)
            self.assertLessEqual(len(node.generators[0].ifs), 1)

    def test_is_stands_beside_none_true_false(self):
        for name, node in nodes(ast.Compare):
            for sign, right in zip(node.ops, node.comparators):
                if isinstance(sign, (ast.Is, ast.IsNot)):
                    self.assertIn(ast.unparse(right), ("None", "True", "False"))


class Names(unittest.TestCase):
    def test_names_are_words(self):
        for name, node in nodes(ast.Name, ast.arg, ast.FunctionDef, ast.ClassDef, ast.Attribute):
            word = getattr(node, "id", None) or getattr(node, "arg", None) or getattr(node, "name", None)
            word = word or node.attr
            self.assertTrue(word == "__init__" or re.match(r"^[A-Za-z][A-Za-z0-9_]*$", word), f"{name}: {word}")

    def test_every_name_is_bound_in_the_package_or_pythons_own(self):
        for name, tree in trees():
            known = set(BUILTINS)
            for node in ast.walk(tree):
                if isinstance(node, (ast.FunctionDef, ast.ClassDef)):
                    known.add(node.name)
                elif isinstance(node, ast.arg):
                    known.add(node.arg)
                elif isinstance(node, ast.alias):
                    known.add(node.name)
                elif isinstance(node, ast.Name) and isinstance(node.ctx, ast.Store):
                    known.add(node.id)
            for node in ast.walk(tree):
                if isinstance(node, ast.Name):
                    self.assertIn(node.id, known, f"{name}:{node.lineno}")

    def test_nothing_is_called_like_an_import_a_class_or_a_name_of_pythons(self):
        pythons = set(dir(builtins))
        for name, tree in trees():
            taken = {node.name for node in ast.walk(tree) if isinstance(node, (ast.alias, ast.ClassDef))} | pythons
            for node in ast.walk(tree):
                if isinstance(node, ast.arg):
                    self.assertNotIn(node.arg, taken, name)
                if isinstance(node, ast.Name) and isinstance(node.ctx, ast.Store):
                    self.assertNotIn(node.id, taken, name)
                if isinstance(node, ast.FunctionDef):
                    self.assertNotIn(node.name, pythons, name)

    def test_top_names_are_bound_once(self):
        for name, tree in trees():
            bound = []
            for node in tree.body:
                if isinstance(node, ast.Assign):
                    bound.append(node.targets[0].id)
                    ast.literal_eval(node.value)
                elif isinstance(node, ast.ImportFrom):
                    bound.extend([alias.name for alias in node.names])
                elif isinstance(node, (ast.FunctionDef, ast.ClassDef)):
                    bound.append(node.name)
                else:
                    self.assertIsInstance(node, ast.Expr)
            self.assertEqual(len(bound), len(set(bound)), name)

    def test_what_stands_at_a_files_top_is_not_changed(self):
        for name, tree in trees():
            top = {node.targets[0].id for node in tree.body if isinstance(node, ast.Assign)}
            top |= {alias.name for node in tree.body if isinstance(node, ast.ImportFrom) for alias in node.names}
            changed = [node.value for node in ast.walk(tree)
                       if isinstance(node, (ast.Subscript, ast.Attribute)) and isinstance(node.ctx, ast.Store)]
            changed.extend([node.func.value for node in ast.walk(tree)
                            if isinstance(node, ast.Call) and isinstance(node.func, ast.Attribute)])
            for node in changed:
                if isinstance(node, ast.Name):
                    self.assertNotIn(node.id, top, f"{name}:{node.lineno}")

    def test_values_of_objects_and_methods(self):
        for name, tree in trees():
            called = {id(node.func) for node in ast.walk(tree) if isinstance(node, ast.Call)}
            for node in ast.walk(tree):
                if isinstance(node, ast.Attribute):
                    if id(node) in called:
                        self.assertIn(node.attr, METHODS, f"{name}:{node.lineno}")
                    else:
                        self.assertNotIn(node.attr, TAKEN, f"{name}:{node.lineno}")


class Imports(unittest.TestCase):
    def test_from_the_very_file_that_defines_the_name(self):
        defined = {}
        for name, tree in trees():
            defined[name] = {
                node.targets[0].id if isinstance(node, ast.Assign) else getattr(node, "name", None)
                for node in tree.body
            }
        for name, node in nodes(ast.ImportFrom):
            self.assertEqual(node.level, 0)
            folder, file = node.module.split(".")
            self.assertEqual(folder, "turnsteps")
            for alias in node.names:
                self.assertIsNone(alias.asname)
                self.assertIn(alias.name, defined[file + ".py"])

    def test_every_import_is_used(self):
        for name, tree in trees():
            used = {node.id for node in ast.walk(tree) if isinstance(node, ast.Name)}
            for node in ast.walk(tree):
                if isinstance(node, ast.alias):
                    self.assertIn(node.name, used, name)

    def test_no_two_files_draw_from_one_another(self):
        draws = {path.stem: set() for path in files()}
        for name, node in nodes(ast.ImportFrom):
            draws[name[:-3]].add(node.module.split(".")[1])
        while draws:
            free = [name for name in draws if not draws[name]]
            self.assertTrue(free, f"a ring: {draws}")
            draws = {name: draws[name] - set(free) for name in draws if name not in free}


if __name__ == "__main__":
    unittest.main()
