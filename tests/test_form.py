"""The form of the package's files: those rules of the language that can be seen in a file's text or tree."""

import ast
import builtins
import pathlib
import re
import unittest

PACKAGE = pathlib.Path(__file__).resolve().parent.parent / "gapweave"
FILES = sorted(path for path in PACKAGE.rglob("*") if path.is_file() and "__pycache__" not in path.parts)

OWN_NAMES = set(
    "len range enumerate zip min max sum abs sorted reversed int str bool list tuple dict set frozenset isinstance "
    "ord repr any all divmod Exception ValueError TypeError KeyError IndexError LookupError ZeroDivisionError "
    "ArithmeticError OverflowError RuntimeError NotImplementedError AttributeError StopIteration".split())
OWN_METHODS = set(
    "append clear copy count endswith extend find get index insert isalnum isalpha isdigit islower isspace isupper "
    "items join keys ljust lower lstrip partition pop remove replace reverse rfind rjust rpartition rsplit rstrip "
    "setdefault split splitlines startswith strip update upper values zfill bit_length __init__".split())
STATEMENTS = (
    ast.FunctionDef, ast.ClassDef, ast.ImportFrom, ast.Assign, ast.AugAssign, ast.If, ast.While, ast.For, ast.Return,
    ast.Break, ast.Continue, ast.Pass, ast.Raise, ast.Try, ast.Expr)
EXPRESSIONS = (
    ast.Constant, ast.List, ast.Tuple, ast.Dict, ast.Set, ast.BinOp, ast.UnaryOp, ast.BoolOp, ast.Compare, ast.IfExp,
    ast.Call, ast.Attribute, ast.Subscript, ast.Slice, ast.ListComp, ast.JoinedStr, ast.FormattedValue, ast.Name,
    ast.Lambda)
NO_WORDS = re.compile(
    r"\b(type|typing|typing_extensions|enum|Enum|IntEnum|StrEnum|Flag|IntFlag|Generic|Protocol|ABC|ABCMeta|namedtuple"
    r"|NamedTuple|TypedDict|TYPE_CHECKING|abstractmethod)\b|dataclass|overload|contextmanager")
NO_NAMES = set("register mro elements open input version_info with_traceback add_note format format_map".split())

KEYWORDS = {
    "sorted": ("key", "reverse"), "min": ("key", "default"), "max": ("key", "default"), "sum": ("start",),
    "enumerate": ("start",), "zip": ("strict",)}
WALKERS = ("list", "tuple", "dict", "sorted", "sum", "any", "all", "enumerate", "zip", "join")


def is_call(node, names):
    if not isinstance(node, ast.Call):
        return False
    return (node.func.id if isinstance(node.func, ast.Name) else getattr(node.func, "attr", None)) in names


def top_names(tree):
    """The names that a file defines at its top, each as often as it does."""
    names = []
    for node in tree.body:
        if isinstance(node, (ast.FunctionDef, ast.ClassDef)):
            names.append(node.name)
        if isinstance(node, ast.Assign):
            names.append(node.targets[0].id)
    return names


def parents_of(tree):
    return {child: node for node in ast.walk(tree) for child in ast.iter_child_nodes(node)}


def is_docstring(statement):
    return isinstance(statement, ast.Expr) and isinstance(statement.value, ast.Constant)


class Form(unittest.TestCase):
    def nodes(self, kinds):
        for path in FILES:
            for node in ast.walk(ast.parse(path.read_text())):
                if isinstance(node, kinds):
                    yield f"{path.name}:{getattr(node, 'lineno', 0)}", node

    def test_l1_l14_files(self):
        self.assertIn(PACKAGE / "__init__.py", FILES)
        for path in FILES:
            self.assertRegex(path.name, r"^[a-z0-9_]+\.py$")

    def test_l2_l16_imports(self):
        modules = {"gapweave." + path.stem for path in FILES}
        for where, node in self.nodes(ast.ImportFrom):
            self.assertIn(node.module, modules, where)
            self.assertEqual(node.level, 0, where)
            self.assertEqual(node.col_offset, 0, where)
            for alias in node.names:
                self.assertNotEqual(alias.name, "*", where)

    def test_l15_l16_names_once_and_from_the_file_that_defines_them(self):
        trees = {"gapweave." + path.stem: ast.parse(path.read_text()) for path in FILES}
        draws = {}
        for module, tree in trees.items():
            names = top_names(tree)
            drawn = [node for node in tree.body if isinstance(node, ast.ImportFrom)]
            names.extend(alias.asname or alias.name for node in drawn for alias in node.names)
            self.assertEqual(sorted(names), sorted(set(names)), module)
            for node in drawn:
                for alias in node.names:
                    self.assertIn(alias.name, top_names(trees[node.module]), f"{module}: {alias.name}")
            draws[module] = {node.module for node in drawn}
        # Files that draw from none that is left are taken away, until none is left.
        while draws:
            free = [module for module, others in draws.items() if not others & set(draws)]
            self.assertTrue(free, f"these draw from one another: {sorted(draws)}")
            for module in free:
                draws.pop(module)

    def test_l15_lists_and_dicts_at_the_top_are_only_read(self):
        kept = set()
        for where, node in self.nodes(ast.Assign):
            if node.col_offset == 0 and isinstance(node.value, (ast.List, ast.Dict)):
                kept.add(node.targets[0].id)
                within = [part for part in ast.walk(node.value) if isinstance(part, (ast.List, ast.Dict))]
                self.assertEqual(within, [node.value], where)
        for where, tree in self.nodes(ast.Module):
            parents = parents_of(tree)
            for node in ast.walk(tree):
                if isinstance(node, ast.Name) and node.id in kept and isinstance(node.ctx, ast.Load):
                    parent = parents[node]
                    self.assertIsInstance(parent, (ast.Subscript, ast.Compare, ast.For, ast.comprehension), where)
                    self.assertIsInstance(getattr(parent, "ctx", ast.Load()), ast.Load, where)

    def test_l6_l27_texts_and_powers(self):
        for where, node in self.nodes((ast.FunctionDef, ast.ClassDef)):
            self.assertFalse(is_docstring(node.body[0]), where)
        for where, node in self.nodes(ast.BinOp):
            if isinstance(node.op, ast.Pow):
                self.assertIsInstance(node.right, ast.Constant, where)
                self.assertIn(node.right.value, range(65), where)
        for path in FILES:
            for escape in re.findall(r"\\(.)", path.read_text()):
                self.assertIn(escape, "nt\\'\"", path.name)

    def test_l18_l26_values_of_objects(self):
        own = {name for kind in (str, int, list, dict, set, bytes) for name in dir(kind)}
        free = "count index title find get join lower upper split strip copy add".split()
        methods = {part.name for _, node in self.nodes(ast.ClassDef) for part in node.body
                   if isinstance(part, ast.FunctionDef)}
        for where, node in self.nodes(ast.Attribute):
            if isinstance(node.ctx, ast.Store):
                self.assertIsInstance(node.value, ast.Name, where)
                self.assertTrue(node.attr in free or node.attr not in own, where)
                self.assertNotIn(node.attr, methods, where)

    def test_l3_top_of_a_module(self):
        for path in FILES:
            top = ast.parse(path.read_text()).body
            self.assertTrue(is_docstring(top[0]), path.name)
            for statement in top[1:]:
                self.assertIsInstance(
                    statement, (ast.ImportFrom, ast.FunctionDef, ast.ClassDef, ast.Assign), path.name)

    def test_l4_functions(self):
        for where, node in self.nodes((ast.FunctionDef, ast.ClassDef)):
            self.assertEqual(node.decorator_list, [], where)
        for where, node in self.nodes(ast.arguments):
            self.assertEqual((node.vararg, node.kwarg, node.kwonlyargs), (None, None, []), where)

    def test_l5_classes(self):
        for where, node in self.nodes(ast.ClassDef):
            self.assertLessEqual(len(node.bases), 1, where)
            for statement in node.body:
                self.assertIsInstance(statement, (ast.FunctionDef, ast.Pass), where)

    def test_l6_statements(self):
        for where, node in self.nodes(ast.stmt):
            self.assertIsInstance(node, STATEMENTS, where)
        for where, node in self.nodes(ast.Expr):
            self.assertTrue(isinstance(node.value, ast.Call) or is_docstring(node), where)
        for where, node in self.nodes((ast.For, ast.While)):
            self.assertEqual(node.orelse, [], where)
        for where, node in self.nodes(ast.Assign):
            self.assertEqual(len(node.targets), 1, where)
            self.assertNotIsInstance(node.targets[0], (ast.Tuple, ast.List), where)

    def test_l7_expressions(self):
        for where, node in self.nodes(ast.expr):
            self.assertIsInstance(node, EXPRESSIONS, where)
        for where, node in self.nodes(ast.operator):
            self.assertNotIsInstance(node, (ast.Div, ast.MatMult), where)
        for where, node in self.nodes(ast.ListComp):
            self.assertEqual(len(node.generators), 1, where)
            self.assertLessEqual(len(node.generators[0].ifs), 1, where)
        for where, node in self.nodes(ast.FormattedValue):
            self.assertIsInstance(node.value, ast.Name, where)
            self.assertIsNone(node.format_spec, where)

    def test_l8_l15_names_of_pythons_own(self):
        for where, node in self.nodes(ast.Name):
            if node.id in vars(builtins):
                self.assertIn(node.id, OWN_NAMES, where)
                self.assertIsInstance(node.ctx, ast.Load, where)
        for where, node in self.nodes(ast.arg):
            self.assertNotIn(node.arg, vars(builtins), where)
        for where, node in self.nodes(ast.FunctionDef):
            self.assertNotIn(node.name, vars(builtins), where)

    def test_l10_sizes(self):
        for path in FILES:
            lines = path.read_text().splitlines()
            self.assertLessEqual(len(lines), 400, path.name)
            self.assertLessEqual(max(len(line) for line in lines), 120, path.name)
        for where, node in self.nodes(ast.FunctionDef):
            self.assertLessEqual(node.end_lineno - node.lineno + 1, 40, where)

    def test_l12_l17_names(self):
        for where, node in self.nodes((ast.Name, ast.arg, ast.Attribute, ast.FunctionDef, ast.ClassDef)):
            name = [getattr(node, key) for key in ("id", "arg", "attr", "name") if hasattr(node, key)][0]
            self.assertNotIn(name, NO_NAMES, where)
            if name != "__init__":
                self.assertRegex(name, r"^[A-Za-z][A-Za-z0-9_]*$", where)

    def test_l14_l17_l27_signs_and_words(self):
        for path in FILES:
            self.assertRegex(path.read_bytes(), rb"\A[ -~\n]*\Z", path.name)
            self.assertIsNone(NO_WORDS.search(path.read_text()), path.name)
        for where, node in self.nodes(ast.Constant):
            self.assertNotIsInstance(node.value, (float, bytes, complex), where)
            if isinstance(node.value, str):
                self.assertNotIn("%", node.value, where)

    def test_l15_names_are_not_hidden(self):
        for path in FILES:
            tree = ast.parse(path.read_text())
            taken = {node.name for node in tree.body if isinstance(node, ast.ClassDef)}
            for node in tree.body:
                if isinstance(node, ast.ImportFrom):
                    taken.update(alias.asname or alias.name for alias in node.names)
            for node in ast.walk(tree):
                if isinstance(node, ast.arg):
                    self.assertNotIn(node.arg, taken, path.name)
                if isinstance(node, ast.Name) and isinstance(node.ctx, ast.Store):
                    self.assertNotIn(node.id, taken, path.name)

    def test_l20_is(self):
        for where, node in self.nodes(ast.Compare):
            for operator, other in zip(node.ops, node.comparators):
                if isinstance(operator, (ast.Is, ast.IsNot)):
                    self.assertIsInstance(other, ast.Constant, where)
                    self.assertIn(other.value, (None, True, False), where)

    def test_l19_errors(self):
        for where, node in self.nodes(ast.ExceptHandler):
            self.assertIsInstance(node.type, ast.Name, where)
            self.assertNotIn(node.type.id, ("Exception", "TypeError"), where)
        for where, node in self.nodes(ast.Raise):
            self.assertIsInstance(node.exc, ast.Call, where)

    def test_l21_annotations(self):
        for where, node in self.nodes(ast.FunctionDef):
            self.assertIsNone(node.returns, where)
        for where, node in self.nodes(ast.arg):
            self.assertIsNone(node.annotation, where)

    def test_l22_keywords_and_values(self):
        for where, node in self.nodes(ast.Call):
            own = node.func.id if isinstance(node.func, ast.Name) else None
            for keyword in node.keywords:
                self.assertIn(keyword.arg, KEYWORDS.get(own, ()), where)
        for where, tree in self.nodes(ast.Module):
            handed = {id(node.func) for node in ast.walk(tree) if isinstance(node, ast.Call)}
            bases = {id(base) for node in ast.walk(tree) if isinstance(node, ast.ClassDef) for base in node.bases}
            kinds = {id(node.args[1]) for node in ast.walk(tree) if is_call(node, ("isinstance",))}
            for node in ast.walk(tree):
                if isinstance(node, ast.Name) and node.id in OWN_NAMES:
                    self.assertIn(id(node), handed | bases | kinds, f"{where} {node.id}")

    def test_l23_walked_at_once(self):
        for where, tree in self.nodes(ast.Module):
            walked = set()
            for node in ast.walk(tree):
                if isinstance(node, (ast.For, ast.comprehension)):
                    walked.add(id(node.iter))
                if is_call(node, WALKERS) and node.args:
                    walked.add(id(node.args[0]))
                if is_call(node, ("zip",)):
                    walked.update(id(part) for part in node.args)
                if is_call(node, ("min", "max")) and len(node.args) == 1:
                    walked.add(id(node.args[0]))
            for node in ast.walk(tree):
                if is_call(node, ("zip", "enumerate", "reversed", "range", "items", "keys", "values")):
                    self.assertIn(id(node), walked, f"{where}:{node.lineno}")

    def test_l24_sets(self):
        for where, tree in self.nodes(ast.Module):
            asked = set()
            for node in ast.walk(tree):
                if is_call(node, ("sorted", "len")) and not node.keywords:
                    asked.update(id(part) for part in ast.walk(node.args[0]))
                if isinstance(node, ast.Compare):
                    asked.update(id(part) for part in node.comparators + [node.left])
            for node in ast.walk(tree):
                if isinstance(node, ast.Set) or is_call(node, ("set", "frozenset")):
                    self.assertIn(id(node), asked, f"{where}:{node.lineno}")

    def test_l25_methods(self):
        own = {node.name for _, node in self.nodes(ast.FunctionDef)}
        for where, node in self.nodes(ast.Call):
            if isinstance(node.func, ast.Attribute):
                self.assertIn(node.func.attr, OWN_METHODS | own, where)


if __name__ == "__main__":
    unittest.main()
