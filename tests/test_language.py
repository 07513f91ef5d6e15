"""The rules of ../shared/LANGUAGE.md that can be seen from the code alone, for the part of them that is used here."""

import ast
import builtins
import pathlib
import re
import unittest

PACKAGE = pathlib.Path(__file__).resolve().parent.parent / "neverboxes"
FILES = sorted(path for path in PACKAGE.rglob("*") if "__pycache__" not in path.parts)

BUILTINS = set(
    "len range enumerate zip min max sum abs sorted reversed int str bool bytes list tuple dict set frozenset "
    "isinstance ord repr any all divmod pow Exception ValueError TypeError KeyError IndexError LookupError "
    "ZeroDivisionError ArithmeticError OverflowError RuntimeError NotImplementedError AttributeError".split()
)
METHODS = set(
    "append clear copy count endswith extend find get index insert isalnum isalpha isdigit islower isspace isupper "
    "items join keys ljust lower lstrip partition pop remove replace reverse rfind rjust rpartition rsplit rstrip "
    "setdefault split splitlines startswith strip update upper values zfill bit_length add discard".split()
)
OPERATORS = "__init__ __eq__ __repr__ __str__ __len__ __call__ __or__ __and__ __contains__ __getitem__ __iter__ __bool__"
UNUSED_NAMES = set(
    "register mro elements open input law version_info with_traceback add_note attrgetter breakpoint builtins compile "
    "copyright credits delattr dir eval exec exit gc getattr globals hasattr help id importlib license locals "
    "methodcaller os quit setattr type vars sys".split()
)
UNUSED_WORDS = set(
    "type typing typing_extensions enum Enum IntEnum StrEnum Flag IntFlag Generic Protocol ABC ABCMeta namedtuple "
    "NamedTuple TypedDict TYPE_CHECKING abstractmethod dataclass overload contextmanager".split()
)
NOT_ATTRIBUTES = set(
    "items keys values pop update append clear extend insert remove reverse setdefault sort args encode decode hex "
    "fromhex format".split()
)
FORBIDDEN = (
    ast.Global, ast.AsyncFunctionDef, ast.AsyncFor, ast.AsyncWith, ast.Await, ast.AnnAssign, ast.GeneratorExp,
    ast.Div, ast.Pow, ast.MatMult, ast.NamedExpr, ast.SetComp, ast.Nonlocal,
)


def trees():
    return {path: ast.parse(path.read_text()) for path in FILES}


def functions(tree):
    return [node for node in ast.walk(tree) if isinstance(node, (ast.FunctionDef, ast.Lambda))]


def parameters(node):
    told = node.args
    return [arg for arg in [*told.posonlyargs, *told.args, told.vararg, *told.kwonlyargs, told.kwarg] if arg]


def parents(tree):
    return {child: node for node in ast.walk(tree) for child in ast.iter_child_nodes(node)}


def bound_names(tree):
    """All names that a file binds within functions."""
    found = {arg.arg for node in functions(tree) for arg in parameters(node)}
    for node in ast.walk(tree):
        if isinstance(node, ast.Name) and not isinstance(node.ctx, ast.Load):
            found.add(node.id)
        if isinstance(node, ast.ExceptHandler) and node.name:
            found.add(node.name)
    return found


def called_name(node):
    return node.func.id if isinstance(node, ast.Call) and isinstance(node.func, ast.Name) else None


class LanguageTest(unittest.TestCase):
    def test_files(self):
        for path in FILES:
            self.assertRegex(path.name, r"^[a-z_]+\.py$")
            self.assertNotIn(path.stem, {*dir(builtins), "test", "tests", "site", "conftest"})
            text = path.read_text()
            self.assertRegex(text, r"\A[ -~\n]*\Z", path.name)
            self.assertLess(text.count("\n"), 400, path.name)
            self.assertLessEqual(max(len(line) for line in text.split("\n")), 120, path.name)

    def test_sizes_of_functions(self):
        for path, tree in trees().items():
            for node in functions(tree):
                self.assertLessEqual(node.end_lineno - node.lineno + 1, 40, (path.name, node.lineno))

    def test_imports(self):
        needs = {}
        for path, tree in trees().items():
            needs[path.stem] = set()
            for node in ast.walk(tree):
                self.assertNotIsInstance(node, ast.Import)
                if isinstance(node, ast.ImportFrom):
                    self.assertIn(node, tree.body)
                    self.assertEqual(node.level, 0)
                    folder, _, name = node.module.partition(".")
                    self.assertEqual(folder, "neverboxes", (path.name, node.lineno))
                    needs[path.stem].add(name)
                    self.check_names(name, [alias.name for alias in node.names])
                    self.assertEqual([alias.asname for alias in node.names], [None] * len(node.names))
        while needs:
            free = [name for name, wanted in needs.items() if not wanted & set(needs)]
            self.assertTrue(free, f"these import from each other: {sorted(needs)}")
            for name in free:
                del needs[name]

    def check_names(self, module, names):
        tree = ast.parse((PACKAGE / (module + ".py")).read_text())
        defined = {node.name for node in tree.body if isinstance(node, (ast.FunctionDef, ast.ClassDef))}
        defined |= {node.targets[0].id for node in tree.body if isinstance(node, ast.Assign)}
        self.assertLessEqual(set(names), defined, module)

    def test_imports_are_used(self):
        for path, tree in trees().items():
            used = {node.id for node in ast.walk(tree) if isinstance(node, ast.Name)}
            for node in tree.body:
                if isinstance(node, ast.ImportFrom):
                    self.assertLessEqual({alias.name for alias in node.names}, used, path.name)

    def test_module_level(self):
        for path, tree in trees().items():
            names = []
            for node in tree.body:
                if isinstance(node, (ast.FunctionDef, ast.ClassDef)):
                    names.append(node.name)
                elif isinstance(node, ast.ImportFrom):
                    names.extend(alias.name for alias in node.names)
                elif isinstance(node, ast.Assign):
                    self.assertEqual(len(node.targets), 1)
                    self.check_value(node.value, names)
                    names.append(node.targets[0].id)
                else:
                    self.assertIsInstance(node.value.value, str, (path.name, node.lineno))
            self.assertEqual(len(names), len(set(names)), path.name)

    def check_value(self, node, above):
        """A plain value, or a dict from plain values to functions that are defined above."""
        if isinstance(node, ast.Dict) and all(isinstance(value, ast.Name) for value in node.values):
            for key, value in zip(node.keys, node.values):
                ast.literal_eval(key)
                self.assertIn(value.id, above)
        else:
            ast.literal_eval(node)

    def test_forbidden_forms(self):
        for path, tree in trees().items():
            for node in ast.walk(tree):
                place = (path.name, getattr(node, "lineno", 0))
                self.assertNotIsInstance(node, FORBIDDEN, place)
                if isinstance(node, ast.Constant):
                    self.assertNotIsInstance(node.value, (float, complex), place)
                if isinstance(node, ast.Compare) and isinstance(node.ops[0], (ast.Is, ast.IsNot)):
                    self.assertIsInstance(node.comparators[0], ast.Constant, place)
                if isinstance(node, ast.AugAssign):
                    self.assertIsInstance(node.value, ast.Constant, place)
                if isinstance(node, (ast.FunctionDef, ast.ClassDef)):
                    self.check_decorators(node, place)
                if isinstance(node, ast.FunctionDef):
                    self.assertEqual([node.returns] + [arg.annotation for arg in parameters(node)],
                                     [None] * (1 + len(parameters(node))), place)

    def check_decorators(self, node, place):
        for decorator in node.decorator_list:
            self.assertIsInstance(node, ast.FunctionDef, place)
            self.assertIn(decorator.id, ("property", "staticmethod"), place)

    def test_double_underscores(self):
        for path, tree in trees().items():
            for node in ast.walk(tree):
                for name in (getattr(node, "name", None), getattr(node, "id", None), getattr(node, "attr", None)):
                    if isinstance(name, str) and name.startswith("__"):
                        self.assertIn(name, OPERATORS.split(), path.name)

    def test_words_that_are_not_used(self):
        for path, tree in trees().items():
            bound = bound_names(tree)
            bound |= {node.name for node in ast.walk(tree) if isinstance(node, (ast.FunctionDef, ast.ClassDef))}
            self.assertFalse(bound & UNUSED_NAMES, path.name)
            attributes = {node.attr for node in ast.walk(tree) if isinstance(node, ast.Attribute)}
            self.assertFalse(attributes & {"mro", "elements", "open", "input", "law", "register"}, path.name)
            code = re.sub(r"#.*", "", path.read_text())
            self.assertFalse(set(re.findall(r"\w+", code)) & UNUSED_WORDS, path.name)

    def test_names_that_mean_something_else(self):
        for path, tree in trees().items():
            # An interactive Python, which doctest imitates, puts the name _ among the builtins.
            taken = set(dir(builtins)) - {"_"}
            for node in tree.body:
                if isinstance(node, ast.ClassDef):
                    taken.add(node.name)
                if isinstance(node, ast.ImportFrom):
                    taken |= {alias.name for alias in node.names}
            self.assertFalse(bound_names(tree) & taken, path.name)
            self.assertFalse({node.name for node in tree.body if hasattr(node, "name")} & set(dir(builtins)))

    def test_builtins(self):
        for path, tree in trees().items():
            for node in ast.walk(tree):
                if isinstance(node, ast.Name) and node.id in dir(builtins) and node.id != "_":
                    allowed = BUILTINS | {"property", "staticmethod", "NotImplemented"}
                    self.assertIn(node.id, allowed, (path.name, node.lineno))
                if called_name(node) in BUILTINS:
                    words = {keyword.arg for keyword in node.keywords}
                    self.assertLessEqual(words, {"key", "reverse", "default", "start"}, (path.name, node.lineno))

    def test_methods(self):
        own = {"__init__"}
        for tree in trees().values():
            own |= {node.name for node in ast.walk(tree) if isinstance(node, ast.FunctionDef)}
        for path, tree in trees().items():
            for node in ast.walk(tree):
                if isinstance(node, ast.Call) and isinstance(node.func, ast.Attribute):
                    self.assertIn(node.func.attr, METHODS | own, (path.name, node.lineno))

    def test_attributes_methods_and_properties_have_different_names(self):
        assigned, methods, properties = set(), set(), set()
        for tree in trees().values():
            for node in ast.walk(tree):
                if isinstance(node, ast.Attribute) and isinstance(node.ctx, ast.Store):
                    assigned.add(node.attr)
                if isinstance(node, ast.ClassDef):
                    for method in node.body:
                        if isinstance(method, ast.FunctionDef):
                            kind = properties if "property" in [d.id for d in method.decorator_list] else methods
                            kind.add(method.name)
        self.assertFalse(assigned & methods)
        self.assertFalse(assigned & properties)
        self.assertFalse(methods & properties)
        self.assertFalse(assigned & NOT_ATTRIBUTES)

    def test_iterators_are_iterated_at_once(self):
        takers = {"list", "tuple", "dict", "sorted", "sum", "any", "all", "enumerate", "zip", "min", "max"}
        for path, tree in trees().items():
            above = parents(tree)
            for node in ast.walk(tree):
                view = isinstance(node, ast.Call) and getattr(node.func, "attr", "") in ("items", "keys", "values")
                if view or called_name(node) in ("range", "zip", "enumerate", "reversed"):
                    outer = above[node]
                    fine = isinstance(outer, (ast.For, ast.comprehension)) or called_name(outer) in takers
                    fine = fine or (called_name(node) == "range" and called_name(outer) == "reversed")
                    self.assertTrue(fine, (path.name, node.lineno))

    def test_sets_are_sorted_at_once(self):
        for path, tree in trees().items():
            above = parents(tree)
            for node in ast.walk(tree):
                self.assertNotIsInstance(node, ast.Set, path.name)
                if called_name(node) in ("set", "frozenset"):
                    self.assertIn(called_name(above[node]), ("sorted", "len"), (path.name, node.lineno))

    def test_strings(self):
        for path, tree in trees().items():
            for node in ast.walk(tree):
                if isinstance(node, ast.Constant) and isinstance(node.value, str):
                    self.assertNotIn("%", node.value, path.name)
                    self.assertNotRegex(node.value, r"\A__.*__\Z")
                    self.assertNotIn("\t", node.value)

    def test_errors_are_made_where_they_are_raised(self):
        errors = {node.name for node in trees()[PACKAGE / "errors.py"].body if isinstance(node, ast.ClassDef)}
        for path, tree in trees().items():
            for node in ast.walk(tree):
                if isinstance(node, ast.Raise):
                    self.assertIn(called_name(node.exc), errors | {"TypeError"}, (path.name, node.lineno))

    def test_what_is_caught_and_what_is_done_at_last(self):
        errors = {node.name for node in trees()[PACKAGE / "errors.py"].body if isinstance(node, ast.ClassDef)}
        for path, tree in trees().items():
            for node in ast.walk(tree):
                if isinstance(node, ast.ExceptHandler):
                    kinds = node.type.elts if isinstance(node.type, ast.Tuple) else [node.type]
                    self.assertLessEqual({kind.id for kind in kinds}, errors, (path.name, node.lineno))
                if isinstance(node, ast.Try):
                    for row in node.finalbody:
                        self.check_last(row, path.name)

    def check_last(self, row, place):
        self.assertIsInstance(row, (ast.Assign, ast.If), place)
        if isinstance(row, ast.Assign):
            self.assertIsInstance(row.value, (ast.Name, ast.Attribute, ast.Constant), place)
        else:
            self.assertIsInstance(row.test.ops[0], (ast.Is, ast.IsNot), place)
            for inner in [*row.body, *row.orelse]:
                self.check_last(inner, place)

    def test_properties_and_operators_change_nothing(self):
        """By the names of what they call: they may change only what they have created by a plain assignment."""
        reached, left = [], []
        made, methods, properties = defined_functions()
        for name, nodes in methods.items():
            if name.startswith("__") and name != "__call__":
                left.extend(nodes)
        for nodes in properties.values():
            left.extend(nodes)
        while left:
            node = left.pop()
            if node in reached:
                continue
            reached.append(node)
            for part in ast.walk(node):
                if isinstance(part, ast.Call):
                    left.extend(made.get(called_name(part), []))
                    left.extend(methods.get(getattr(part.func, "attr", None), []))
                if isinstance(part, ast.Attribute) and isinstance(part.ctx, ast.Load):
                    left.extend(properties.get(part.attr, []))
        for node in reached:
            self.check_unchanging(node)

    def check_unchanging(self, node):
        created = {part.targets[0].id for part in ast.walk(node) if isinstance(part, ast.Assign)
                   and isinstance(part.targets[0], ast.Name)}
        changing = ("append clear extend insert pop remove reverse setdefault update sort add discard").split()
        for part in ast.walk(node):
            self.assertNotIsInstance(part, (ast.Yield, ast.YieldFrom, ast.AugAssign), node.name)
            if isinstance(part, ast.Attribute) and isinstance(part.ctx, (ast.Store, ast.Del)):
                self.assertEqual([node.name, part.value.id], ["__init__", "self"])
            if isinstance(part, ast.Subscript) and isinstance(part.ctx, (ast.Store, ast.Del)):
                self.assertIn(part.value.id, created, node.name)
            if isinstance(part, ast.Call) and getattr(part.func, "attr", None) in changing:
                self.assertIn(part.func.value.id, created, node.name)


def defined_functions():
    """The functions and classes by their names (a class stands for its __init__), the methods, the properties."""
    made, methods, properties = {}, {}, {}
    for tree in trees().values():
        for node in tree.body:
            if isinstance(node, ast.FunctionDef):
                made.setdefault(node.name, []).append(node)
            for part in node.body if isinstance(node, ast.ClassDef) else ():
                if isinstance(part, ast.FunctionDef) and part.name == "__init__":
                    made.setdefault(node.name, []).append(part)
                elif isinstance(part, ast.FunctionDef):
                    kind = properties if "property" in [mark.id for mark in part.decorator_list] else methods
                    kind.setdefault(part.name, []).append(part)
    return made, methods, properties
