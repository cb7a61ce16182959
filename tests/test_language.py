"""Holds the package to the rules of ../shared/LANGUAGE.md that its written form shows.

Rules of how values are used (most of L15, L18, L19, L25, L26, L28, and L23's changes in a walk) are left to the reader.
"""

import ast
import builtins
import pathlib
import re
import unittest

PACKAGE = pathlib.Path(__file__).resolve().parent.parent / "nodeladder"
FILES = sorted(PACKAGE.rglob("*.py"))

ERRORS = """Exception ValueError TypeError KeyError IndexError LookupError ZeroDivisionError ArithmeticError
    OverflowError RuntimeError NotImplementedError AttributeError StopIteration""".split()
OWN_NAMES = """len range enumerate zip min max sum abs sorted reversed int str bool list tuple dict set frozenset
    isinstance ord repr any all divmod""".split() + ERRORS
METHODS = """append clear copy count endswith extend find get index insert isalnum isalpha isdigit islower isspace
    isupper items join keys ljust lower lstrip partition pop remove replace reverse rfind rjust rpartition rsplit
    rstrip setdefault split splitlines startswith strip update upper values zfill bit_length""".split()
VALUES = "count index title find get join lower upper split strip copy add".split()
UNDERSCORED = "__init__ __eq__ __repr__ __str__ __len__ __all__ __version__ __name__".split()
UNUSED = """register mro elements open input version_info with_traceback add_note format format_map attrgetter
    breakpoint builtins compile copyright credits delattr dir eval exec exit gc getattr globals hasattr help id
    importlib license locals methodcaller os quit setattr super type vars sys""".split()
WORDS = re.compile(
    r"\b(type|typing|typing_extensions|enum|Enum|IntEnum|StrEnum|Flag|IntFlag|Generic|Protocol|ABC|ABCMeta"
    r"|namedtuple|NamedTuple|TypedDict|TYPE_CHECKING|abstractmethod)\b|dataclass|overload|contextmanager")
NODES = """Module Expr ImportFrom alias FunctionDef ClassDef arguments arg keyword Lambda Return Assign AugAssign
    For While If Raise Try ExceptHandler Pass Break Continue BoolOp BinOp UnaryOp IfExp Dict Set ListComp
    comprehension Compare Call FormattedValue JoinedStr Constant Attribute Subscript Slice Name List Tuple Load Store
    Add Sub Mult FloorDiv Mod Pow BitAnd BitOr BitXor LShift RShift Invert USub UAdd Not And Or
    Eq NotEq Lt LtE Gt GtE Is IsNot In NotIn""".split()


CALLED = ("len", "sorted", "range", "enumerate", "zip", "reversed", "min", "max", "sum", "any", "all", "divmod")
WALKS = ("zip", "enumerate", "reversed", "range", "items", "keys", "values")


def named(node):
    """The names that a node of the tree binds, reads or calls."""
    if isinstance(node, ast.Name):
        return [node.id]
    if isinstance(node, ast.Attribute):
        return [node.attr]
    if isinstance(node, (ast.FunctionDef, ast.ClassDef)):
        return [node.name]
    if isinstance(node, ast.arg):
        return [node.arg]
    if isinstance(node, ast.ExceptHandler) and node.name:
        return [node.name]
    if isinstance(node, ast.alias):
        return [node.asname or node.name]
    return []


def bound(tree):
    """The names that parameters and assignments of a tree bind."""
    parameters = [node.arg for node in ast.walk(tree) if isinstance(node, ast.arg)]
    names = [node for node in ast.walk(tree) if isinstance(node, ast.Name)]
    return parameters + [node.id for node in names if isinstance(node.ctx, ast.Store)]


def is_docstring(node):
    return isinstance(node, ast.Expr) and isinstance(node.value, ast.Constant) and isinstance(node.value.value, str)


def parents(tree):
    return {part: node for node in ast.walk(tree) for part in ast.iter_child_nodes(node)}


def called(node):
    """The name by which a call calls."""
    return getattr(node.func, "id", getattr(node.func, "attr", None))


def is_walked(node, part):
    """Whether a walk that stands in this part of the tree is walked on the spot."""
    if isinstance(part, (ast.For, ast.comprehension)):
        return part.iter is node
    if not isinstance(part, ast.Call) or node not in part.args:
        return False
    if called(part) == "zip":
        return True
    if called(part) in ("list", "tuple", "dict", "sorted", "sum", "any", "all", "enumerate"):
        return part.args[0] is node
    if called(part) in ("min", "max"):
        return len(part.args) == 1
    return called(part) == "join" and isinstance(part.func.value, ast.Constant)


class LanguageTest(unittest.TestCase):
    def each_tree(self):
        for path in FILES:
            yield path, ast.parse(path.read_text("utf-8"), path.name)

    def each_node(self, kind=ast.AST):
        for path, tree in self.each_tree():
            for node in ast.walk(tree):
                if isinstance(node, kind):
                    yield node, f"{path.name}, line {getattr(node, 'lineno', '?')}"

    def test_l1_l14_files(self):
        self.assertIn(PACKAGE / "__init__.py", FILES)
        for path in PACKAGE.rglob("*"):
            if "__pycache__" not in path.parts:
                self.assertRegex(path.name, r"^([a-z][a-z0-9_]*|__init__|__main__)\.py$")
                self.assertNotRegex(path.stem, r"^(tests?|testing|test_.*|site|conftest|sitecustomize|usercustomize)$")
                self.assertNotIn(path.stem, dir(builtins))

    def test_l10_l14_sizes_and_signs(self):
        for path in FILES:
            text = path.read_text("utf-8")
            self.assertNotRegex(text, r"[^ -~\n]", path.name)
            self.assertLessEqual(len(text.splitlines()), 400, path.name)
            self.assertLessEqual(max(map(len, text.splitlines())), 120, path.name)
        for node, where in self.each_node(ast.FunctionDef):
            self.assertLessEqual(node.end_lineno - node.lineno + 1, 40, where)

    def test_l17_words(self):
        for path in FILES:
            self.assertNotRegex(path.read_text("utf-8"), WORDS, path.name)

    def test_l2_l16_imports(self):
        for path, tree in self.each_tree():
            for node in ast.walk(tree):
                if isinstance(node, ast.ImportFrom):
                    self.assertIn(node, tree.body)
                    self.assertEqual(node.level, 0)
                    self.assertRegex(node.module, r"^nodeladder\.[a-z0-9_.]+$")
                    source = PACKAGE / (node.module.split(".", 1)[1].replace(".", "/") + ".py")
                    defined = [name for part in ast.parse(source.read_text("utf-8")).body
                               if not isinstance(part, ast.ImportFrom) for name in named(part) + bound(part)]
                    for alias in node.names:
                        self.assertIn(alias.name, defined)

    def test_l16_no_two_files_draw_from_one_another(self):
        drawn = {path.stem: [node.module.split(".")[-1] for node in tree.body if isinstance(node, ast.ImportFrom)]
                 for path, tree in self.each_tree()}
        while drawn:
            free = [name for name in drawn if not any(other in drawn for other in drawn[name])]
            self.assertTrue(free, f"a ring among {sorted(drawn)}")
            drawn = {name: others for name, others in drawn.items() if name not in free}

    def test_l3_l5_tops(self):
        allowed = (ast.ImportFrom, ast.FunctionDef, ast.ClassDef, ast.Assign)
        for path, tree in self.each_tree():
            for node in tree.body:
                self.assertTrue(is_docstring(node) or isinstance(node, allowed), node)
                if isinstance(node, ast.Assign):
                    self.assertFalse([part for part in ast.walk(node.value) if isinstance(part, (ast.Call, ast.BinOp))])
        for node, where in self.each_node(ast.ClassDef):
            self.assertLessEqual(len(node.bases), 1, where)
            self.assertFalse(node.keywords or node.decorator_list, where)
            for part in node.body:
                self.assertIsInstance(part, (ast.FunctionDef, ast.Pass), where)

    def test_l4_functions(self):
        for node, where in self.each_node((ast.FunctionDef, ast.Lambda)):
            taken = node.args
            self.assertFalse(taken.vararg or taken.kwarg or taken.kwonlyargs or taken.posonlyargs, where)
            self.assertFalse(getattr(node, "decorator_list", []), where)

    def test_l3_l6_docstrings_stand_at_tops_alone(self):
        for path, tree in self.each_tree():
            for node in ast.walk(tree):
                if isinstance(node, ast.Expr) and node is not tree.body[0]:
                    self.assertIsInstance(node.value, ast.Call, f"{path.name}, line {node.lineno}")

    def test_l6_l7_forms(self):
        for node, where in self.each_node():
            self.assertIn(node.__class__.__name__, NODES, where)
            if isinstance(node, ast.Assign):
                self.assertEqual(len(node.targets), 1, where)
            if isinstance(node, (ast.For, ast.While)):
                self.assertFalse(node.orelse, where)
            if isinstance(node, ast.Try):
                self.assertFalse(node.finalbody, where)
            if isinstance(node, ast.ExceptHandler):
                self.assertIsNotNone(node.type, where)
            if isinstance(node, ast.ListComp):
                self.assertEqual(len(node.generators), 1, where)
                self.assertLessEqual(len(node.generators[0].ifs), 1, where)
            if isinstance(node, ast.Constant):
                self.assertIn(node.value.__class__, (int, str, bool, None.__class__), where)

    def test_l8_l12_l17_names(self):
        for node, where in self.each_node():
            for name in named(node):
                self.assertRegex(name, r"^[A-Za-z][A-Za-z0-9_]*$|^__[a-z]+__$", where)
                if name.startswith("_"):
                    self.assertIn(name, UNDERSCORED, where)
                self.assertNotIn(name, UNUSED, where)
            if isinstance(node, ast.Name) and node.id in dir(builtins):
                self.assertIn(node.id, OWN_NAMES, where)

    def test_l15_names_bound(self):
        for path, tree in self.each_tree():
            tops = [name for node in tree.body if not isinstance(node, ast.ImportFrom) for name in named(node)]
            tops += [node.targets[0].id for node in tree.body if isinstance(node, ast.Assign)]
            tops += [alias.name for node in tree.body if isinstance(node, ast.ImportFrom) for alias in node.names]
            self.assertEqual(len(tops), len(set(tops)), tops)
            shut = [alias.name for node in tree.body if isinstance(node, ast.ImportFrom) for alias in node.names]
            shut += [node.name for node in tree.body if isinstance(node, ast.ClassDef)] + dir(builtins)
            self.assertFalse([name for name in bound(tree) if name in shut])

    def test_l18_l26_methods_and_values(self):
        inside = [part for node, where in self.each_node(ast.ClassDef) for part in node.body]
        methods = [part.name for part in inside if isinstance(part, ast.FunctionDef)]
        kinds = (str, int, list, tuple, dict, set, frozenset, bytes, bytearray, ValueError)
        pythons = {name for kind in kinds for name in dir(kind)}
        for name in methods:
            if name not in METHODS + ["add", "discard"] + UNDERSCORED:
                self.assertNotIn(name, pythons)
        for node, where in self.each_node(ast.Attribute):
            if isinstance(node.ctx, ast.Store):
                self.assertNotIn(node.attr, methods, where)
                if node.attr not in VALUES:
                    self.assertNotIn(node.attr, pythons, where)

    def test_l18_no_method_stands_twice(self):
        for node, where in self.each_node(ast.ClassDef):
            methods = [part.name for part in node.body if isinstance(part, ast.FunctionDef)]
            self.assertEqual(len(methods), len(set(methods)), where)

    def test_l20_is(self):
        for node, where in self.each_node(ast.Compare):
            for sign, right in zip(node.ops, node.comparators):
                if isinstance(sign, (ast.Is, ast.IsNot)):
                    self.assertTrue(isinstance(right, ast.Constant) and right.value in (None, True, False), where)

    def test_l19_errors(self):
        # Narrower than the rule: ValueError, LookupError and IndexError are taken nowhere.
        own = [node.name for node, where in self.each_node(ast.ClassDef)]
        for node, where in self.each_node((ast.ExceptHandler, ast.Raise)):
            if isinstance(node, ast.ExceptHandler):
                taken = node.type.elts if isinstance(node.type, ast.Tuple) else [node.type]
                for part in taken:
                    self.assertIn(part.id, own + ["KeyError", "ZeroDivisionError", "StopIteration"], where)
            else:
                self.assertIsInstance(node.exc, ast.Call, where)

    def test_l22_keywords(self):
        taken = {"sorted": ["key", "reverse"], "min": ["key", "default"], "max": ["key", "default"],
                 "sum": ["start"], "enumerate": ["start"], "zip": ["strict"]}
        for node, where in self.each_node(ast.Call):
            if isinstance(node.func, ast.Name) and node.func.id in dir(builtins):
                for keyword in node.keywords:
                    self.assertIn(keyword.arg, taken.get(node.func.id, []), where)
            if isinstance(node.func, ast.Attribute) and node.func.attr in METHODS:
                self.assertFalse(node.keywords, where)

    def test_l22_pythons_own_are_called_not_kept(self):
        for path, tree in self.each_tree():
            above = parents(tree)
            for node in ast.walk(tree):
                if isinstance(node, ast.Name) and node.id in CALLED:
                    part = above[node]
                    self.assertTrue(isinstance(part, ast.Call) and part.func is node, f"{path.name}, {node.lineno}")

    def test_l23_walked_at_once(self):
        for path, tree in self.each_tree():
            above = parents(tree)
            for node in ast.walk(tree):
                if isinstance(node, ast.Call) and called(node) in WALKS:
                    self.assertTrue(is_walked(node, above[node]), f"{path.name}, line {node.lineno}")

    def test_l24_sets(self):
        for path, tree in self.each_tree():
            above = parents(tree)
            for node in ast.walk(tree):
                if isinstance(node, ast.Set) or isinstance(node, ast.Call) and called(node) in ("set", "frozenset"):
                    part = above[node]
                    while isinstance(part, ast.BinOp):
                        part = above[part]
                    straight = isinstance(part, ast.Call) and called(part) in ("sorted", "len") and not part.keywords
                    self.assertTrue(straight or isinstance(part, ast.Compare), f"{path.name}, line {node.lineno}")

    def test_l25_methods(self):
        own = [node.name for node, where in self.each_node(ast.FunctionDef)]
        for node, where in self.each_node(ast.Call):
            if isinstance(node.func, ast.Attribute):
                self.assertIn(node.func.attr, METHODS + own, where)

    def test_l27_numbers_and_texts(self):
        for node, where in self.each_node((ast.BinOp, ast.Constant)):
            if isinstance(node, ast.BinOp) and isinstance(node.op, ast.Pow):
                self.assertIsInstance(node.right, ast.Constant, where)
                self.assertIn(node.right.value, range(65), where)
            if isinstance(node, ast.Constant) and isinstance(node.value, str):
                self.assertNotIn("%", node.value, where)


if __name__ == "__main__":
    unittest.main()
