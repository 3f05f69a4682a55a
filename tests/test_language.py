"""Rules of the language subset that a test can see in the files of the package."""

import ast
import builtins
import pathlib
import re
import unittest

FOLDER = pathlib.Path(__file__).resolve().parent.parent / "nearloops"
BUILTINS = """len range enumerate zip min max sum abs sorted reversed int str bool bytes list tuple dict set
    frozenset isinstance ord repr any all divmod iter next map super property staticmethod classmethod Exception
    ValueError TypeError KeyError IndexError LookupError ZeroDivisionError ArithmeticError OverflowError RuntimeError
    NotImplementedError AttributeError StopIteration NotImplemented""".split()
BARRED = """type typing enum Enum Generic Protocol ABC dataclass overload contextmanager namedtuple open input exec eval
    getattr setattr hasattr globals locals vars id hash print float global""".split()
INTERFACE = {
    "errors": "NearError BadNumber BadTolerance BadRow BadGroup BadLoop UnknownState BadAnswer BadJoint BadTable BadKind "
              "BadWatch",
    "places": "place group turned",
    "loops": "Loop Loop.parse Loop.rules Loop.states Loop.start Loop.answers Loop.fitting Loop.text Loop.__len__ "
             "Loop.__eq__",
    "runs": "run Run Run.__len__ Run.__eq__",
    "rows": "ranked same_shape",
    "joints": "joint leads way",
    "excursions": "excursions",
    "papers": "Table Table.alone Table.levels Table.below Table.above Table.level Table.__contains__ Table.__eq__ paper "
              "is_paper",
    "partings": "same parting",
    "watches": "Watch Watch.rules Watch.states Watch.start Watch.alarms Watch.__eq__ watched rings calm is_calm apart "
               "covered",
    "again": "again",
    "orders": "order repeats",
    "kinds": "met kinds",
    "known": "leader chain cells peak",
}
NODES = (ast.Global, ast.AsyncFunctionDef, ast.Await, ast.Div, ast.Import)


def files():
    """Return the files of the package."""
    return sorted(FOLDER.glob("*.py"))


def trees():
    """Return pairs of the name and the syntax tree of each file."""
    return [(path.name, ast.parse(path.read_text("utf-8"))) for path in files()]


class LanguageTest(unittest.TestCase):
    def test_the_folder_contains_files_of_python_alone(self):
        others = [path.name for path in FOLDER.iterdir() if path.suffix != ".py" and path.name != "__pycache__"]
        self.assertEqual(others, [])

    def test_sizes_and_characters(self):
        for path in files():
            data = path.read_bytes()
            lines = data.decode("ascii").split("\n")
            self.assertLessEqual(len(lines), 399, path.name)
            self.assertLessEqual(max(len(line) for line in lines), 120, path.name)
            self.assertTrue(all(byte == 10 or 32 <= byte <= 126 for byte in data), path.name)

    def test_sizes_of_functions(self):
        for name, tree in trees():
            for node in ast.walk(tree):
                if isinstance(node, ast.FunctionDef):
                    self.assertLessEqual(node.end_lineno - node.lineno + 1, 40, (name, node.name))

    def test_imports(self):
        for name, tree in trees():
            for node in ast.walk(tree):
                if isinstance(node, ast.ImportFrom):
                    self.assertEqual(node.level, 0, name)
                    self.assertIn(node.module.split(".")[0], ["nearloops", "heapq", "math", "itertools"], name)
                    self.assertNotIn("*", [alias.name for alias in node.names], name)

    def test_statements_and_names(self):
        known = set(dir(builtins)) - {"_"}
        for name, tree in trees():
            for node in ast.walk(tree):
                self.assertNotIsInstance(node, NODES, name)
                if isinstance(node, ast.Name):
                    self.assertNotIn(node.id, BARRED, name)
                    if node.id in known:
                        self.assertIn(node.id, BUILTINS, name)
                        self.assertIsInstance(node.ctx, ast.Load, (name, node.id))
                if isinstance(node, ast.Constant):
                    self.assertNotIsInstance(node.value, (float, complex), name)
                    self.assertFalse(isinstance(node.value, str) and chr(37) in node.value, name)
                if isinstance(node, ast.arg):
                    self.assertNotIn(node.arg, known, name)

    def test_properties_have_names_of_their_own(self):
        properties, others = set(), set()
        for _, tree in trees():
            for node in ast.walk(tree):
                if isinstance(node, ast.FunctionDef):
                    marks = [mark.id for mark in node.decorator_list if isinstance(mark, ast.Name)]
                    (properties if "property" in marks else others).add(node.name)
                if isinstance(node, ast.Attribute) and isinstance(node.ctx, ast.Store):
                    others.add(node.attr)
        self.assertTrue(properties)
        self.assertEqual(properties & others, set())

    def test_imports_are_used_and_their_names_mean_nothing_else(self):
        for name, tree in trees():
            imported = {alias.name for node in ast.walk(tree) if isinstance(node, ast.ImportFrom) for alias in node.names}
            classes = {node.name for node in tree.body if isinstance(node, ast.ClassDef)}
            bound, used = [], set()
            for node in ast.walk(tree):
                if isinstance(node, ast.arg):
                    bound.append(node.arg)
                if isinstance(node, ast.Name):
                    (used.add if isinstance(node.ctx, ast.Load) else bound.append)(node.id)
                if isinstance(node, (ast.FunctionDef, ast.ClassDef)) and node not in tree.body:
                    self.assertNotIn(node.name, imported, name)
            self.assertEqual(set(bound) & (imported | classes), set(), name)
            self.assertEqual(imported - used, set(), name)

    def test_names_at_module_level_are_bound_once(self):
        for name, tree in trees():
            names = []
            for node in tree.body:
                if isinstance(node, ast.ImportFrom):
                    names += [alias.name for alias in node.names]
                elif isinstance(node, (ast.FunctionDef, ast.ClassDef)):
                    names.append(node.name)
                elif isinstance(node, ast.Assign):
                    names += [target.id for target in node.targets]
            self.assertEqual(len(names), len(set(names)), name)

    def test_methods_are_no_attributes(self):
        methods, stored = set(), set()
        for _, tree in trees():
            for node in ast.walk(tree):
                if isinstance(node, ast.ClassDef):
                    methods |= {part.name for part in node.body if isinstance(part, ast.FunctionDef)}
                if isinstance(node, ast.Attribute) and isinstance(node.ctx, ast.Store):
                    stored.add(node.attr)
        self.assertEqual(methods & stored, set())

    def test_words_that_do_not_occur(self):
        barred = re.compile(r"dataclass|overload|contextmanager|_wall|_WallAttr|metaclass=|"
                            r"\b(type|typing|enum|Enum|Generic|Protocol|ABC|namedtuple|NamedTuple|TypedDict)\b")
        for path in files():
            self.assertIsNone(barred.search(path.read_text("utf-8")), path.name)

    def test_sets_are_not_iterated(self):
        for name, tree in trees():
            for node in ast.walk(tree):
                for part in [node.iter] if isinstance(node, (ast.For, ast.comprehension)) else []:
                    is_call = isinstance(part, ast.Call) and isinstance(part.func, ast.Name)
                    self.assertFalse(isinstance(part, (ast.Set, ast.SetComp)), name)
                    self.assertFalse(is_call and part.func.id in ("set", "frozenset"), name)

    def test_the_interface_is_defined_where_the_document_lists_it(self):
        defined = {name: {node.name: node for node in tree.body if isinstance(node, (ast.FunctionDef, ast.ClassDef))}
                   for name, tree in trees()}
        for module, names in INTERFACE.items():
            for word in names.split():
                name, _, inner = word.partition(".")
                self.assertIn(name, defined[module + ".py"], module)
                if inner:
                    body = defined[module + ".py"][name].body
                    self.assertIn(inner, [part.name for part in body if isinstance(part, ast.FunctionDef)], word)

    def test_imports_make_no_circle(self):
        needs = {}
        for name, tree in trees():
            found = [node.module for node in ast.walk(tree) if isinstance(node, ast.ImportFrom)]
            needs["nearloops." + name[:-3]] = [module for module in found if module.startswith("nearloops")]
        while needs:
            free = [name for name in needs if not any(other in needs for other in needs[name])]
            self.assertNotEqual(free, [], "these import from each other: " + ", ".join(needs))
            for name in free:
                del needs[name]


if __name__ == "__main__":
    unittest.main()
