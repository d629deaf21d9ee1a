"""The interface's names in their files, and the commonest breaks of the rules for the form of the code."""

import ast
import inspect
import unittest
from importlib import import_module
from pathlib import Path

FOLDER = Path(__file__).resolve().parent.parent / "takenjoined"
FILES = sorted(FOLDER.glob("*.py"))

INTERFACE = {
    "webs": {
        "Web": ("many", "ties"), "taken": ("web", "tie"), "joined": ("web", "tie"), "beside": ("one", "other"),
        "glued": ("one", "other", "u", "v"), "renamed": ("web", "order"),
    },
    "rings": {"parts": ("web", "lot"), "rank": ("web", "lot"), "rings": ("web",), "bridges": ("web",)},
    "paintings": {
        "is_painting": ("web", "q", "thing"), "is_good": ("web", "q", "thing"), "painted": ("web", "q"),
        "paintings": ("web", "q"),
    },
    "counts": {
        "numbers": ("web",), "worth": ("numbers", "q"), "parted": ("one", "other"), "fewest": ("web",),
        "paper": ("web",), "is_paper": ("web", "thing"),
    },
    "broken": {"unbroken": ("web", "way"), "mate": ("web", "way", "lot")},
    "signings": {
        "is_signing": ("web", "thing"), "round_of": ("web", "signing"), "rising": ("web",),
        "sources": ("web", "signing"), "fitting": ("web", "q"), "fits": ("web", "q"),
        "is_fitting": ("web", "q", "thing"), "split": ("web", "tie", "q", "pair"),
        "merged": ("web", "tie", "q", "word", "pair"),
    },
    "turnings": {
        "turned": ("web", "signing", "place"), "leads": ("web", "signing", "other"),
        "is_leading": ("web", "signing", "other", "thing"), "rooted": ("web", "signing", "place"),
        "only": ("web", "place"),
    },
    "exchanges": {
        "chain": ("web", "q", "painting", "place", "colour"), "exchanged": ("web", "q", "painting", "place", "colour"),
        "row_between": ("web", "q", "one", "other"), "is_row_between": ("web", "q", "one", "other", "thing"),
        "is_shut": ("web", "q", "thing"), "shut_lot": ("web", "q", "painting"), "shut_lots": ("web", "q"),
    },
    "thin": {
        "thinness": ("web",), "thin_order": ("web", "d"), "is_thin": ("web", "d", "thing"),
        "is_thick": ("web", "d", "thing"), "thick_lot": ("web", "d"), "first_fit": ("web", "order"),
        "thin_row": ("web", "q", "order", "one", "other"),
    },
    "coming": {
        "is_comings": ("thing",), "comings_of": ("web", "order"), "is_forest": ("comings",),
        "led": ("painter", "comings"), "first_painter": ("comings", "colours"), "forest_foe": ("painter", "many"),
        "is_forced": ("painter", "many", "thing"), "least_colours": ("places",), "grown_lot": ("comings", "place"),
    },
    "greedy": {
        "greedy": ("web", "many"), "is_greedy": ("web", "many", "thing"), "order_for": ("web", "painting"),
        "most_by_orders": ("web",), "least_by_orders": ("web",), "worst_order": ("web", "painter"),
    },
    "fair": {
        "many_on": ("web", "q", "begin"), "shares": ("web", "q", "begin"), "painting_at": ("web", "q", "index"),
        "index_of": ("web", "q", "painting"), "chance": ("web", "q", "drawer", "painting"), "fair_drawer": ("web", "q"),
        "unfair": ("web", "q", "drawer"), "is_unfair": ("web", "q", "drawer", "thing"),
        "first_unfair": ("web", "q", "drawer"), "drawn": ("web", "q", "drawer", "throws"),
        "alike_chance": ("web", "q", "one", "other"),
    },
    "tables": {
        "frames": ("web",), "busy": ("web", "way", "frame"), "table": ("web",), "table_by": ("web", "way"),
        "frame_of": ("web", "way", "lot"), "table_at": ("web", "x", "y"),
    },
    "laws": {"law_value": ("web", "four"), "first_break": ("function", "four", "places", "most")},
    # The document calls these arguments map; this is the name of a builtin, and they are passed by position.
    "maps": {
        "Map": ("web", "turns"), "faces": ("chart",), "is_flat": ("chart",), "opposite": ("chart",),
        "lines": ("chart",), "five": ("chart",), "light_order": ("chart",),
    },
    "texts": {
        "web_text": ("web",), "read_web": ("text",), "map_text": ("chart",), "read_map": ("text",),
        "signing_text": ("signing",), "read_signing": ("text",),
    },
    "desks": {"Desk": (), "recovered": ("text",)},
}
METHODS = {("webs", "Web"): "__init__ __eq__", ("maps", "Map"): "__init__ __eq__",
           ("desks", "Desk"): "__init__ tell journal"}
BUILTINS = (
    "len range enumerate zip min max sum abs sorted reversed int str bool bytes list tuple dict set isinstance ord "
    "repr any all divmod pow getattr hasattr setattr iter next map type super property staticmethod classmethod "
    "Exception ValueError TypeError KeyError IndexError LookupError ZeroDivisionError ArithmeticError OverflowError "
    "RuntimeError NotImplementedError AttributeError StopIteration NotImplemented"
).split()
LIBRARY = {
    "heapq": "heappush heappop heapify heapreplace heappushpop", "math": "gcd lcm isqrt comb perm factorial",
    "itertools": "product combinations permutations chain accumulate pairwise islice zip_longest",
    "collections": "defaultdict deque",
}
TAKES_GENERATOR = ("list", "tuple", "dict", "join")
BARRED = (ast.AsyncFunctionDef, ast.Await, ast.AsyncFor, ast.AsyncWith, ast.Div, ast.MatMult)


def trees():
    return [(path, ast.parse(path.read_text(encoding="utf-8"))) for path in FILES]


def called_name(call):
    return getattr(call.func, "id", getattr(call.func, "attr", ""))


class Interface(unittest.TestCase):

    def test_names_arguments_and_files(self):
        for file, names in INTERFACE.items():
            module = import_module("takenjoined." + file)
            for name, arguments in names.items():
                thing = getattr(module, name)
                self.assertEqual(thing.__module__, "takenjoined." + file)
                self.assertEqual(tuple(inspect.signature(thing).parameters), arguments, name)
                self.assertEqual(inspect.isclass(thing), name[0].isupper())

    def test_methods_stand_in_their_class(self):
        for (file, name), methods in METHODS.items():
            for method in methods.split():
                self.assertIn(method, vars(getattr(import_module("takenjoined." + file), name)))
        self.assertEqual(list(inspect.signature(import_module("takenjoined.desks").Desk.tell).parameters),
                         ["self", "line"])


class Form(unittest.TestCase):

    def test_folder(self):
        names = sorted(path.name for path in FOLDER.iterdir() if path.name != "__pycache__")
        self.assertEqual(names, [path.name for path in FILES])
        self.assertIn("__init__.py", names)
        for name in names:
            self.assertRegex(name, r"\A[a-z_][a-z0-9_]*\.py\Z")

    def test_sizes_and_signs(self):
        for path in FILES:
            text = path.read_text(encoding="utf-8")
            lines = text.split("\n")
            self.assertLess(len(lines), 400, path.name)
            self.assertLessEqual(max(len(line) for line in lines), 120, path.name)
            self.assertTrue(all(sign == "\n" or " " <= sign <= "~" for sign in text), path.name)
            self.assertTrue(text.endswith("\n") and not any(line.endswith(" ") for line in lines), path.name)

    def test_functions(self):
        for path, tree in trees():
            for node in ast.walk(tree):
                if isinstance(node, (ast.FunctionDef, ast.ClassDef)):
                    self.assertIsNotNone(ast.get_docstring(node) or node.name.startswith("__"), node.name)
                if isinstance(node, ast.FunctionDef):
                    self.assertLessEqual(node.end_lineno - node.lineno + 1, 40, (path.name, node.name))

    def test_module_level(self):
        for path, tree in trees():
            self.assertIsNotNone(ast.get_docstring(tree), path.name)
            for node in tree.body[1:]:
                kinds = (ast.ImportFrom, ast.FunctionDef, ast.ClassDef, ast.Assign)
                self.assertIsInstance(node, kinds, (path.name, node.lineno))
            bound = [node.name for node in tree.body if isinstance(node, (ast.FunctionDef, ast.ClassDef))]
            bound += [name.name for node in tree.body if isinstance(node, ast.ImportFrom) for name in node.names]
            self.assertEqual(len(bound), len(set(bound)), path.name)

    def test_imports_name_the_file_that_defines(self):
        for path, tree in trees():
            for node in ast.walk(tree):
                self.assertNotIsInstance(node, ast.Import, path.name)
                if isinstance(node, ast.ImportFrom):
                    self.assertEqual(node.level, 0)
                    for name in node.names:
                        self.assert_import(path, node.module, name)

    def assert_import(self, path, module, name):
        self.assertIsNone(name.asname, path.name)
        if module in LIBRARY:
            self.assertIn(name.name, LIBRARY[module].split(), path.name)
            return
        self.assertTrue(module.startswith("takenjoined."), (path.name, module))
        thing = getattr(import_module(module), name.name)
        self.assertEqual(getattr(thing, "__module__", module), module, (path.name, name.name))

    def test_no_two_files_import_from_each_other(self):
        uses = {}
        for path, tree in trees():
            froms = [node.module for node in tree.body if isinstance(node, ast.ImportFrom)]
            uses["takenjoined." + path.stem] = froms
        for file in uses:
            ahead = list(uses[file])
            for module in ahead:
                ahead += [further for further in uses.get(module, []) if further not in ahead]
            self.assertNotIn(file, ahead)

    def test_statements_and_expressions(self):
        for path, tree in trees():
            for node in ast.walk(tree):
                where = (path.name, getattr(node, "lineno", 0))
                self.assertNotIsInstance(node, BARRED, where)
                if isinstance(node, ast.Constant):
                    self.assertNotIsInstance(node.value, (float, complex), where)
                if isinstance(node, ast.ExceptHandler):
                    self.assertIsNotNone(node.type, where)

    def test_generator_expressions_where_a_class_has_eq(self):
        for path, tree in trees():
            taken = [node.args[0] for node in ast.walk(tree) if isinstance(node, ast.Call) and node.args
                     and called_name(node) in TAKES_GENERATOR]
            for node in ast.walk(tree):
                if isinstance(node, ast.GeneratorExp):
                    self.assertIn(node, taken, (path.name, node.lineno))

    def test_builtins(self):
        everything = dir(__import__("builtins"))
        for path, tree in trees():
            for node in ast.walk(tree):
                if isinstance(node, ast.Name) and node.id in everything:
                    self.assertIn(node.id, BUILTINS, (path.name, node.lineno))
                    self.assertIsInstance(node.ctx, ast.Load, (path.name, node.lineno))
                if isinstance(node, ast.Call):
                    self.assertNotEqual(called_name(node), "sort", (path.name, node.lineno))
