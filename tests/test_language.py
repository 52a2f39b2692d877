"""The rules of LANGUAGE.md that can be told from the shape of the code."""

import ast
import builtins
import re
import unittest
from pathlib import Path

FOLDER = Path(__file__).resolve().parent.parent / "handround"
BUILTINS = set(
    "len range enumerate zip min max sum abs sorted reversed int str bool list tuple dict set isinstance ord repr "
    "any all divmod Exception ValueError TypeError KeyError IndexError LookupError NotImplemented property "
    "staticmethod classmethod".split()
)
METHODS = set(
    "append clear copy count endswith extend find get index insert isalnum isalpha isdigit islower isspace isupper "
    "items join keys ljust lower lstrip partition pop remove replace reverse rfind rjust rpartition rsplit rstrip "
    "setdefault split splitlines startswith strip update upper values zfill bit_length add discard".split()
)
DOUBLES = set(
    "__init__ __eq__ __repr__ __str__ __len__ __call__ __iter__ __contains__ __getitem__ __lt__ __le__ __gt__ __ge__ "
    "__mul__ __neg__ __pow__ __bool__".split()
)
BARRED_NAMES = set(
    "register mro elements open input law version_info with_traceback add_note breakpoint builtins compile copyright "
    "credits delattr dir eval exec exit gc globals help id importlib license locals os quit super type vars sys".split()
)
BARRED_WORDS = re.compile(
    r"\b(type|typing|enum|Enum|Flag|Generic|Protocol|ABC|namedtuple|NamedTuple|abstractmethod|_wall|_WallAttr)\b"
)
BARRED_NODES = (
    ast.Global, ast.AsyncFunctionDef, ast.AsyncFor, ast.AsyncWith, ast.Await, ast.GeneratorExp, ast.Div, ast.MatMult,
    ast.Import, ast.AnnAssign, ast.Match, ast.NamedExpr, ast.With, ast.Lambda, ast.Pow, ast.Assert, ast.Nonlocal,
)
# Beside these, what a class runs by a sign or as a property: it changes nothing but what it created.
RUN = DOUBLES - {"__init__", "__call__", "__iter__"}
CHANGERS = {"append", "clear", "extend", "insert", "pop", "remove", "reverse", "setdefault", "update", "add", "discard"}
EATERS = {"list", "tuple", "dict", "sorted", "sum", "min", "max", "any", "all", "enumerate", "zip"}


def with_parents(tree):
    for node in ast.walk(tree):
        for child in ast.iter_child_nodes(node):
            child.parent = node
    return tree


def bound_names(tree):
    """All names that a file binds, with those of parameters, attributes and keywords."""
    for node in ast.walk(tree):
        if isinstance(node, (ast.FunctionDef, ast.ClassDef)):
            yield node.name
        elif isinstance(node, ast.Name) and not isinstance(node.ctx, ast.Load):
            yield node.id
        elif isinstance(node, (ast.arg, ast.keyword)) and node.arg:
            yield node.arg
        elif isinstance(node, ast.Attribute):
            yield node.attr
        elif isinstance(node, ast.ExceptHandler) and node.name:
            yield node.name


def local_names(tree):
    for node in ast.walk(tree):
        if isinstance(node, ast.Name) and not isinstance(node.ctx, ast.Load):
            yield node.id
        elif isinstance(node, ast.arg):
            yield node.arg


def called(node):
    """The name of the function or method that is called."""
    return node.func.id if isinstance(node.func, ast.Name) else getattr(node.func, "attr", None)


def called_or_none(node):
    return called(node) if isinstance(node, ast.Call) else None


def names_called(function):
    return {called(node) for node in ast.walk(function) if isinstance(node, ast.Call)}


def is_property(function):
    return any(ast.unparse(one) == "property" for one in function.decorator_list)


def changed_in(node):
    """What the node itself changes: the object behind an attribute, an item or a method, or None."""
    if isinstance(node, (ast.Attribute, ast.Subscript)) and not isinstance(node.ctx, ast.Load):
        return node.value
    if isinstance(node, ast.Call) and isinstance(node.func, ast.Attribute) and node.func.attr in CHANGERS:
        return node.func.value
    return None


def assigned_to(function, name):
    """All that the function assigns to the name by plain statements."""
    return [
        node.value for node in ast.walk(function)
        if isinstance(node, ast.Assign) for target in node.targets
        if isinstance(target, ast.Name) and target.id == name
    ]


def is_created(function, node, classes):
    """Whether the node is a local name that only stands for what the function created."""
    values = assigned_to(function, node.id) if isinstance(node, ast.Name) else []
    return bool(values) and all(
        isinstance(value, (ast.List, ast.Dict, ast.ListComp, ast.DictComp))
        or isinstance(value, ast.Call) and called(value) in {"list", "dict", *classes}
        for value in values
    )


class LanguageTests(unittest.TestCase):
    @classmethod
    def setUpClass(cls):
        cls.texts = {path.name: path.read_text(encoding="utf-8") for path in sorted(FOLDER.glob("*.py"))}
        cls.trees = {name: with_parents(ast.parse(text)) for name, text in cls.texts.items()}
        nodes = [node for tree in cls.trees.values() for node in ast.walk(tree)]
        cls.functions = [node for node in nodes if isinstance(node, ast.FunctionDef)]
        cls.classes = [node for node in nodes if isinstance(node, ast.ClassDef)]
        cls.yielding = {
            node.name for node in cls.functions
            if any(isinstance(part, (ast.Yield, ast.YieldFrom)) for part in ast.walk(node))
        }

    def walk(self, *kinds):
        for name, tree in self.trees.items():
            for node in ast.walk(tree):
                if isinstance(node, kinds):
                    yield f"{name}:{getattr(node, 'lineno', 0)}", node

    def test_files(self):
        files = [path for path in FOLDER.rglob("*") if "__pycache__" not in path.parts]
        self.assertEqual({path.name for path in files}, set(self.texts))
        self.assertLessEqual(len(files), 100)
        for path in files:
            self.assertRegex(path.name, r"^([a-z][a-z0-9]*|__init__)\.py$")
            self.assertNotIn(path.stem, dir(builtins))
            self.assertFalse(path.stem.startswith(("law", "test")))

    def test_lines_and_characters(self):
        for name, text in self.texts.items():
            self.assertRegex(text, r"\A[ -~\n]*\Z")
            self.assertLessEqual(len(text.split("\n")), 399)
            self.assertTrue(all(len(line) <= 120 for line in text.split("\n")), name)
        for node in self.functions:
            self.assertLessEqual(node.end_lineno - node.lineno + 1, 40, node.name)

    def test_imports(self):
        graph = {}
        for name, tree in self.trees.items():
            graph[name] = set()
            used = {node.id for node in ast.walk(tree) if isinstance(node, ast.Name)}
            for node in [node for node in ast.walk(tree) if isinstance(node, ast.ImportFrom)]:
                self.assertIs(node.parent, tree)
                self.assertTrue(node.level == 0 and node.module.startswith("handround."), name)
                source = node.module.split(".")[1] + ".py"
                graph[name].add(source)
                defined = {getattr(part, "name", None) for part in self.trees[source].body}
                defined |= {part.targets[0].id for part in self.trees[source].body if isinstance(part, ast.Assign)}
                for alias in node.names:
                    self.assertIn(alias.name, defined)
                    self.assertIn(alias.name, used, f"{name}: {alias.name} is not used")
                    self.assertIsNone(alias.asname)
        while graph:
            free = [name for name in graph if not graph[name] & set(graph)]
            self.assertTrue(free, f"files import from each other: {sorted(graph)}")
            graph = {name: graph[name] for name in graph if name not in free}

    def test_module_level(self):
        for name, tree in self.trees.items():
            bound = []
            imports_over = False
            for at, node in enumerate(tree.body):
                if isinstance(node, ast.Expr):
                    self.assertTrue(at == 0 and isinstance(node.value, ast.Constant), name)
                elif isinstance(node, ast.ImportFrom):
                    self.assertFalse(imports_over)
                    bound.extend(alias.name for alias in node.names)
                else:
                    imports_over = True
                    self.assertIsInstance(node, (ast.FunctionDef, ast.ClassDef, ast.Assign), name)
                    bound.append(node.targets[0].id if isinstance(node, ast.Assign) else node.name)
            self.assertEqual(len(bound), len(set(bound)), name)
            outer = {node.name for node in ast.walk(tree) if isinstance(node, ast.ClassDef)}
            outer |= {alias.name for node in tree.body if isinstance(node, ast.ImportFrom) for alias in node.names}
            self.assertEqual(outer & set(local_names(tree)), set(), name)

    def test_kinds_of_statements(self):
        for place, node in self.walk(*BARRED_NODES):
            self.fail(f"{place}: {node.__class__.__name__}")
        for place, node in self.walk(ast.Constant):
            self.assertNotIsInstance(node.value, (float, complex, bytes), place)
            if isinstance(node.value, str):
                self.assertNotIn("%", node.value, place)
        for place, node in self.walk(ast.Compare):
            if any(isinstance(sign, (ast.Is, ast.IsNot)) for sign in node.ops):
                self.assertTrue(all(isinstance(side, ast.Constant) for side in node.comparators), place)

    def test_names(self):
        for name, tree in self.trees.items():
            for bound in bound_names(tree):
                self.assertNotIn(bound, BARRED_NAMES, name)
                plain = r"^(_|_?[A-Za-z][A-Za-z0-9_]*)$"
                self.assertTrue(re.match(plain, bound) or bound in DOUBLES, f"{name}: {bound}")
            for bound in local_names(tree):
                self.assertNotIn(bound, dir(builtins), name)
            for node in ast.walk(tree):
                if isinstance(node, ast.Name) and isinstance(node.ctx, ast.Load) and node.id in dir(builtins):
                    self.assertIn(node.id, BUILTINS, f"{name}:{node.lineno}")
                if isinstance(node, ast.Name) and node.id == "_":
                    self.assertIsInstance(node.ctx, ast.Store, f"{name}:{node.lineno}")
            code = "\n".join(line.split("#")[0] for line in re.sub(r'"""[^"]*"""', "", self.texts[name]).split("\n"))
            self.assertIsNone(BARRED_WORDS.search(code), name)

    def test_classes(self):
        stored = {node.attr for place, node in self.walk(ast.Attribute) if isinstance(node.ctx, ast.Store)}
        for node in self.classes:
            names = [part.name for part in node.body if isinstance(part, ast.FunctionDef)]
            plain = [part.name for part in node.body if isinstance(part, ast.FunctionDef) and not part.decorator_list]
            self.assertEqual(len(plain), len(set(plain)))
            self.assertTrue(all(not name.startswith("__") or name in DOUBLES for name in names), names)
            if "__getitem__" in names:
                self.assertIn("__iter__", names)
            self.assertEqual(node.decorator_list, [])
            self.assertEqual(set(plain) & stored, set())
        for node in self.functions:
            for decorator in node.decorator_list:
                self.assertRegex(ast.unparse(decorator), r"^(property|classmethod|staticmethod|[a-z_]+\.setter)$")

    def test_errors(self):
        own = {node.name for node in self.classes}
        for place, node in self.walk(ast.ExceptHandler):
            self.assertIn(getattr(node.type, "id", None), own, place)
        for place, node in self.walk(ast.Raise):
            if node.exc is not None:
                self.assertIsInstance(node.exc, ast.Call, place)
                self.assertIn(node.exc.func.id, own | {"TypeError"}, place)
                self.assertEqual(node.exc.keywords, [], place)

    def test_generators_are_iterated_at_once(self):
        names = [node.name for node in self.functions]
        for name in self.yielding:
            self.assertEqual(names.count(name), 1, name)
        for place, node in self.walk(ast.Call):
            if called(node) in self.yielding:
                parent = node.parent
                at_once = isinstance(parent, (ast.For, ast.comprehension, ast.YieldFrom))
                eaten = isinstance(parent, ast.Call) and called(parent) in EATERS
                self.assertTrue(at_once or eaten, place)
                plain = [*node.args, *(keyword.value for keyword in node.keywords)]
                self.assertTrue(all(isinstance(part, (ast.Name, ast.Attribute, ast.Constant)) for part in plain), place)
        for place, node in self.walk(ast.Yield, ast.YieldFrom):
            self.assertIsInstance(node.parent, ast.Expr, place)

    def test_calls(self):
        own = {node.name for node in self.functions}
        for place, node in self.walk(ast.Call):
            if isinstance(node.func, ast.Attribute):
                self.assertIn(node.func.attr, own | METHODS, place)
            elif node.func.id in dir(builtins):
                allowed = {"sorted": {"key"}, "min": {"default"}, "max": {"default"}, "enumerate": {"start"}}
                self.assertLessEqual({one.arg for one in node.keywords}, allowed.get(node.func.id, set()), place)
            if called(node) in ("zip", "range", "enumerate", "reversed", "items", "keys", "values"):
                parent = node.parent
                at_once = isinstance(parent, (ast.For, ast.comprehension))
                self.assertTrue(at_once or isinstance(parent, ast.Call) and called(parent) in EATERS, place)

    def test_what_is_sorted(self):
        # A class that compares is no part of a set, so what goes through one is sorted as plain values are.
        for place, node in self.walk(ast.Call):
            if called(node) == "sorted":
                self.assertTrue(len(node.args) == 1 and called_or_none(node.args[0]) == "set", place)
            elif called(node) in ("min", "max"):
                self.assertIsInstance(node.args[0], ast.ListComp, place)
                self.assertIn(called_or_none(node.args[0].elt), ("len", "int", "str"), place)

    def test_orders(self):
        for node in self.classes:
            names = {part.name for part in node.body if isinstance(part, ast.FunctionDef)}
            self.assertFalse({"__lt__", "__gt__"} <= names or {"__le__", "__ge__"} <= names, node.name)
            if "__lt__" in names:
                self.assertIn("__eq__", names)
        for place, node in self.walk(ast.Try):
            for part in [part for line in node.finalbody for part in ast.walk(line)]:
                self.assertNotIsInstance(part, (ast.BinOp, ast.Compare, ast.Call, ast.If), place)

    def test_what_operators_and_properties_run(self):
        classes = [node.name for node in self.classes]
        waiting = [node for node in self.functions if node.name in RUN or is_property(node)]
        seen = []
        while waiting:
            function = waiting.pop()
            if function in seen:
                continue
            seen.append(function)
            given = {node.arg for node in ast.walk(function.args) if isinstance(node, ast.arg)}
            self.assertEqual(given & names_called(function), set(), function.name)
            for node in ast.walk(function):
                changed = changed_in(node)
                place = f"{function.name}:{getattr(node, 'lineno', 0)}"
                if changed is not None and function.name != "__init__":
                    self.assertTrue(is_created(function, changed, classes), place)
            wanted = names_called(function)
            waiting.extend(node for node in self.functions if node.name in wanted)
            for node in [node for node in self.classes if node.name in wanted]:
                waiting.extend(part for part in node.body if getattr(part, "name", "") == "__init__")
        self.assertGreater(len(seen), 30)

    def test_sets_are_only_measured_or_sorted(self):
        for place, node in self.walk(ast.Set, ast.SetComp, ast.Call):
            if not isinstance(node, ast.Call) or called(node) == "set":
                self.assertIsInstance(node.parent, ast.Call, place)
                self.assertIn(called(node.parent), ("len", "sorted"), place)
