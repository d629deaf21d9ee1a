"""More of the rules for the form of the code, as far as a file shows them; they do not stand for all of them."""

import ast
import builtins
import unittest
from pathlib import Path

FOLDER = Path(__file__).resolve().parent.parent / "takenjoined"
METHODS = (
    "append clear copy count endswith extend find get index insert isalnum isalpha isdigit islower isspace "
    "isupper items join keys ljust lower lstrip partition pop remove replace reverse rfind rjust rpartition "
    "rsplit rstrip setdefault split splitlines startswith strip update upper values zfill bit_length add "
    "discard"
).split()
UNUSED = (
    "mro elements open input law version_info with_traceback add_note register attrgetter breakpoint builtins "
    "compile copyright credits delattr dir eval exec exit gc globals help id importlib license locals "
    "methodcaller os quit super type vars typing enum Enum Flag Generic Protocol ABC namedtuple dataclass "
    "overload contextmanager"
).split()
BEGINNINGS = (
    "__", "_wall", "_pe_", "_dcw_", "_enum_", "_cm_", "_twin_re_", "_lay_", "_law_", "_stub_", "_sre", "_WallAttr",
    "_cold", "_tuplegetter", "_outside", "_record", "_written_out", "_member_names",
)
ON_THE_SPOT = ("range", "zip", "enumerate", "reversed", "items", "keys", "values", "combinations", "permutations",
               "product")
TAKERS = ("list", "tuple", "dict", "sorted", "sum", "any", "all", "min", "max", "enumerate", "zip", "len", "reversed",
          "join", "combinations", "permutations")
BARRED = (
    ast.Global, ast.Nonlocal, ast.AsyncFor, ast.NamedExpr, ast.Lambda, ast.With, ast.Yield, ast.YieldFrom,
    ast.JoinedStr, ast.Match, ast.Delete, ast.Assert,
)


class Rules(unittest.TestCase):

    def setUp(self):
        self.trees = [(path.name, ast.parse(path.read_text(encoding="utf-8"))) for path in sorted(FOLDER.glob("*.py"))]

    def nodes(self, *kinds):
        """List all nodes of these kinds, each beside where it stands and its parents, the nearest first."""
        found = []
        for name, tree in self.trees:
            waiting = [(tree, ())]
            while waiting:
                node, parents = waiting.pop()
                if isinstance(node, kinds):
                    found.append((node, (name, getattr(node, "lineno", 0)), parents))
                waiting += [(child, (node,) + parents) for child in ast.iter_child_nodes(node)]
        return found

    def test_no_statement_or_expression_that_asks_for_care(self):
        for node, where, parents in self.nodes(*BARRED):
            # An item of a dict that is an attribute may be removed.
            items = isinstance(node, ast.Delete) and all(isinstance(target, ast.Subscript) for target in node.targets)
            self.assertTrue(items, where)

    def test_bound_names(self):
        everything = set(dir(builtins))
        for name, tree in self.trees:
            froms = {alias.name for node in ast.walk(tree) if isinstance(node, ast.ImportFrom) for alias in node.names}
            classes = {node.name for node in ast.walk(tree) if isinstance(node, ast.ClassDef)}
            for node in ast.walk(tree):
                bound = [arg.arg for arg in ast.walk(node.args) if isinstance(arg, ast.arg)] \
                    if isinstance(node, ast.FunctionDef) else []
                if isinstance(node, ast.Name) and isinstance(node.ctx, ast.Store):
                    bound.append(node.id)
                for word in bound:
                    self.assertNotIn(word, froms | classes | everything | set(UNUSED), (name, node.lineno))
                if isinstance(node, (ast.FunctionDef, ast.ClassDef)):
                    self.assertNotIn(node.name, froms | everything | set(UNUSED), (name, node.lineno))
                    bound.append(node.name)
                for word in bound:
                    own = word in ("__init__", "__eq__")
                    self.assertTrue(own or not word.startswith(BEGINNINGS), (name, node.lineno, word))

    def test_functions_take_plain_arguments(self):
        for node, where, parents in self.nodes(ast.FunctionDef, ast.ClassDef):
            self.assertEqual(node.decorator_list, [], where)
            if isinstance(node, ast.FunctionDef):
                given = node.args
                self.assertFalse(given.vararg or given.kwarg or given.kwonlyargs or given.posonlyargs, where)
                self.assertEqual(given.defaults, [], where)

    def test_powers_have_literal_exponents(self):
        for node, where, parents in self.nodes(ast.BinOp, ast.AugAssign):
            if isinstance(node.op, ast.Pow):
                self.assertIsInstance(node.right, ast.Constant, where)

    def test_methods_that_are_called(self):
        own = {node.name for node, where, parents in self.nodes(ast.FunctionDef) if isinstance(parents[0],
            ast.ClassDef)}
        for node, where, parents in self.nodes(ast.Call):
            if isinstance(node.func, ast.Attribute):
                self.assertIn(node.func.attr, set(METHODS) | own, where)
            if isinstance(node.func, ast.Attribute) or node.func.id in dir(builtins):
                allowed = {"min": ["default"], "max": ["default"]}.get(getattr(node.func, "id", ""), [])
                self.assertLessEqual({word.arg for word in node.keywords}, set(allowed), where)

    def test_attributes_are_assigned_by_a_class(self):
        own = {node.name for node, where, parents in self.nodes(ast.FunctionDef) if isinstance(parents[0],
            ast.ClassDef)}
        assigned = {node.attr for node, where, parents in self.nodes(ast.Attribute) if isinstance(node.ctx, ast.Store)}
        self.assertFalse(assigned & (own | set(METHODS) - {"count", "index"}))
        for node, where, parents in self.nodes(ast.Attribute):
            called = isinstance(parents[0], ast.Call) and parents[0].func is node
            self.assertTrue(called or node.attr in assigned, where)

    def test_sets_are_asked_on_the_spot(self):
        for node, where, parents in self.nodes(ast.Call, ast.Set, ast.SetComp):
            if isinstance(node, ast.Call) and getattr(node.func, "id", "") != "set":
                continue
            asked = isinstance(parents[0], ast.Call) and getattr(parents[0].func, "id", "") in ("len", "sorted")
            self.assertTrue(asked and len(parents[0].args) == 1 and not parents[0].keywords, where)

    def test_iterated_on_the_spot(self):
        for node, where, parents in self.nodes(ast.Call):
            name = getattr(node.func, "id", getattr(node.func, "attr", ""))
            if name in ON_THE_SPOT:
                loop = isinstance(parents[0], (ast.For, ast.comprehension)) and parents[0].iter is node
                taker = getattr(parents[0], "func", None)
                taken = getattr(taker, "id", getattr(taker, "attr", "")) in TAKERS and node in parents[0].args
                self.assertTrue(loop or taken, where)
                if taken and parents[0].func.__class__ is ast.Name and parents[0].func.id == "len":
                    self.assertIn(name, ("range", "items"), where)

    def test_own_errors_alone_are_caught_and_raised(self):
        kept = {node.name for node, where, parents in self.nodes(ast.ClassDef) if where[0] == "errors.py"}
        for node, where, parents in self.nodes(ast.ExceptHandler):
            self.assertIn(node.type.id, kept, where)
        for node, where, parents in self.nodes(ast.Raise):
            self.assertIn(node.exc.func.id, kept, where)
            self.assertIsNone(node.cause, where)

    def test_strings(self):
        for node, where, parents in self.nodes(ast.Constant):
            if isinstance(node.value, str):
                self.assertNotIn("%", node.value, where)
                self.assertFalse(node.value.endswith(("._", ".__")) or "__" in node.value, where)
            if isinstance(parents[0], ast.Expr):
                self.assertIs(type(node.value), str, where)

    def test_comparing_by_is(self):
        for node, where, parents in self.nodes(ast.Compare):
            for sign, other in zip(node.ops, node.comparators):
                if isinstance(sign, (ast.Is, ast.IsNot)):
                    self.assertIsInstance(other, ast.Constant, where)

    def test_module_level_is_read_alone(self):
        for name, tree in self.trees:
            tables = [node.targets[0].id for node in tree.body
                      if isinstance(node, ast.Assign) and isinstance(node.value, (ast.Dict, ast.List))]
            for node, where, parents in self.nodes(ast.Name):
                if where[0] == name and node.id in tables and isinstance(node.ctx, ast.Load):
                    item = isinstance(parents[0], (ast.Subscript, ast.Attribute)) and parents[0].value is node
                    self.assertTrue(item or isinstance(parents[0], ast.Compare), where)
