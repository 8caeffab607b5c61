"""Whether the package keeps to the rules of LANGUAGE.md, as far as they can be seen in its syntax."""

import ast
import builtins
import os
import re
import unittest

PACKAGE = os.path.join(os.path.dirname(os.path.dirname(os.path.abspath(__file__))), "loopsize")
LIBRARY = {
    "heapq": ("heappush", "heappop", "heapify", "heapreplace", "heappushpop"),
    "math": ("gcd", "lcm", "isqrt", "comb", "perm", "factorial"),
    "itertools": ("product", "combinations", "permutations"),
}
BUILTINS = set(
    "len range enumerate zip min max sum abs sorted reversed int str bool bytes list tuple dict set frozenset "
    "isinstance ord repr any all divmod map iter next Exception ValueError TypeError KeyError IndexError LookupError "
    "ZeroDivisionError ArithmeticError OverflowError RuntimeError NotImplementedError AttributeError StopIteration "
    "NotImplemented".split()
)
METHODS = set(
    "append clear copy count endswith extend find get index insert isalnum isalpha isdigit islower isspace isupper "
    "items join keys ljust lower lstrip partition pop remove replace reverse rfind rjust rpartition rsplit rstrip "
    "setdefault split splitlines startswith strip update upper values zfill bit_length".split()
)
CHANGERS = set("append clear extend insert pop remove reverse setdefault update add discard sort".split())
OPERATORS = set(
    "__lt__ __le__ __gt__ __ge__ __ne__ __add__ __sub__ __mul__ __floordiv__ __mod__ __pow__ __and__ __or__ __xor__ "
    "__lshift__ __rshift__ __radd__ __rsub__ __rmul__ __rfloordiv__ __rmod__ __neg__ __pos__ __invert__ __abs__ "
    "__bool__ __contains__".split()
)
DOUBLE = OPERATORS | set("__init__ __eq__ __repr__ __str__ __len__ __enter__ __exit__ __call__ __iter__".split())
BARRED_NAMES = set(
    "register mro elements open input law version_info with_traceback add_note attrgetter breakpoint builtins compile "
    "copyright credits delattr dir eval exec exit gc getattr globals hasattr help id importlib license locals "
    "methodcaller os quit setattr super type vars".split()
)
BARRED_WORDS = re.compile(
    r"\b(type|typing|typing_extensions|enum|Enum|IntEnum|StrEnum|Flag|IntFlag|Generic|Protocol|ABC|ABCMeta|namedtuple"
    r"|NamedTuple|TypedDict|TYPE_CHECKING|abstractmethod)\b|dataclass|overload|contextmanager"
)
ON_THE_SPOT = set("list tuple dict sorted sum any all enumerate zip min max reversed len".split())


def read_files():
    told = {}
    for name in sorted(os.listdir(PACKAGE)):
        if name.endswith(".py"):
            with open(os.path.join(PACKAGE, name), encoding="utf-8") as file:
                told[name[:-3]] = file.read()
    return told


def with_parents(tree):
    for node in ast.walk(tree):
        for child in ast.iter_child_nodes(node):
            child.parent = node
    return tree


def functions_in(tree):
    return [node for node in ast.walk(tree) if isinstance(node, ast.FunctionDef)]


def docstrings_in(tree):
    told = []
    for node in ast.walk(tree):
        if isinstance(node, (ast.Module, ast.FunctionDef, ast.ClassDef)) and node.body:
            first = node.body[0]
            if isinstance(first, ast.Expr) and isinstance(first.value, ast.Constant):
                told.append(first.value)
    return told


def call_name(node):
    return node.func.id if isinstance(node, ast.Call) and isinstance(node.func, ast.Name) else None


def parameters_of(function):
    args = function.args
    told = [arg.arg for arg in args.posonlyargs + args.args + args.kwonlyargs]
    return told + [arg.arg for arg in (args.vararg, args.kwarg) if arg]


def bound_names(node):
    """The names that a function binds, those of its comprehensions and nested functions included."""
    told = []
    for part in ast.walk(node):
        if isinstance(part, ast.Name) and isinstance(part.ctx, (ast.Store, ast.Del)):
            told.append(part.id)
        elif isinstance(part, (ast.FunctionDef, ast.Lambda)):
            told.extend(parameters_of(part))
            if isinstance(part, ast.FunctionDef) and part is not node:
                told.append(part.name)
    return told


def is_created(value):
    if isinstance(value, (ast.List, ast.ListComp)):
        return True
    if isinstance(value, ast.Dict):
        return True
    return call_name(value) in ("list", "dict", "sorted")


class LanguageTest(unittest.TestCase):
    @classmethod
    def setUpClass(cls):
        cls.files = read_files()
        cls.trees = {name: with_parents(ast.parse(text)) for name, text in cls.files.items()}

    def fail_at(self, name, node, why):
        self.fail(f"{name}.py:{node.lineno}: {why}")

    def each_node(self):
        for name, tree in self.trees.items():
            for node in ast.walk(tree):
                yield name, node

    def test_folder_holds_python_files_alone(self):
        for name in os.listdir(PACKAGE):
            if name != "__pycache__":
                self.assertRegex(name, r"^[a-z_][a-z0-9_]*\.py$")
        self.assertLessEqual(len(self.files), 100)

    def test_lines_and_characters(self):
        for name, text in self.files.items():
            lines = text.split("\n")
            self.assertLessEqual(len(text.splitlines()), 399, name)
            for at, line in enumerate(lines):
                self.assertLessEqual(len(line), 120, f"{name}:{at + 1}")
                self.assertTrue(all(" " <= sign <= "~" for sign in line), f"{name}:{at + 1}")

    def test_functions_are_small(self):
        for name, tree in self.trees.items():
            for node in functions_in(tree):
                self.assertLessEqual(node.end_lineno - node.lineno + 1, 40, f"{name}.{node.name}")

    def test_imports(self):
        edges = {}
        for name, tree in self.trees.items():
            edges[name] = []
            seen_other = False
            for node in tree.body:
                if isinstance(node, ast.ImportFrom):
                    self.assertFalse(seen_other, f"{name}: import behind other things")
                    self.check_import(name, node)
                    if node.module.startswith("loopsize."):
                        edges[name].append(node.module[len("loopsize."):])
                elif not (isinstance(node, ast.Expr) and isinstance(node.value, ast.Constant)):
                    seen_other = True
            for node in ast.walk(tree):
                self.assertNotIsInstance(node, ast.Import)
        self.check_no_circle(edges)

    def check_import(self, name, node):
        self.assertEqual(node.level, 0)
        for alias in node.names:
            self.assertIsNone(alias.asname)
            if node.module in LIBRARY:
                self.assertIn(alias.name, LIBRARY[node.module])
            else:
                source = self.trees[node.module[len("loopsize."):]]
                defined = [part.name for part in source.body if isinstance(part, (ast.FunctionDef, ast.ClassDef))]
                for part in source.body:
                    if isinstance(part, ast.Assign):
                        defined.append(part.targets[0].id)
                self.assertIn(alias.name, defined, f"{name}: {alias.name}")
            loads = [part for part in ast.walk(self.trees[name]) if isinstance(part, ast.Name) and part.id == alias.name]
            self.assertTrue(loads, f"{name}: {alias.name} is not used")

    def check_no_circle(self, edges):
        done = []
        while len(done) < len(edges):
            now = [name for name in edges if name not in done and all(other in done for other in edges[name])]
            self.assertTrue(now, "files import from each other")
            done.extend(now)

    def test_module_level(self):
        for name, tree in self.trees.items():
            names = []
            for node in tree.body:
                if isinstance(node, ast.Expr):
                    self.assertIsInstance(node.value, ast.Constant)
                elif isinstance(node, ast.Assign):
                    self.assertEqual(len(node.targets), 1)
                    self.assertIsInstance(node.targets[0], ast.Name)
                    names.append(node.targets[0].id)
                    for part in ast.walk(node.value):
                        self.assertNotIsInstance(part, (ast.Call, ast.Set, ast.SetComp, ast.ListComp, ast.Lambda))
                else:
                    self.assertIsInstance(node, (ast.ImportFrom, ast.FunctionDef, ast.ClassDef))
                    if isinstance(node, ast.ImportFrom):
                        names.extend(alias.name for alias in node.names)
                    else:
                        names.append(node.name)
            self.assertEqual(len(names), len(set(names)), name)

    def test_statements_and_expressions(self):
        barred = (
            ast.Global, ast.AsyncFunctionDef, ast.AsyncFor, ast.AsyncWith, ast.Await, ast.GeneratorExp, ast.Yield,
            ast.YieldFrom, ast.Div, ast.MatMult, ast.Try, ast.With, ast.Match, ast.NamedExpr, ast.Set, ast.AnnAssign,
        )
        for name, node in self.each_node():
            if isinstance(node, barred):
                self.fail_at(name, node, f"{node.__class__.__name__} is not used here")
            if isinstance(node, (ast.FunctionDef, ast.ClassDef)):
                self.assertEqual(node.decorator_list, [], name)
            if isinstance(node, ast.Constant):
                self.assertNotIsInstance(node.value, (float, complex, bytes))
                if isinstance(node.value, str):
                    self.assertNotIn("%", node.value)
            if isinstance(node, ast.BinOp) and isinstance(node.op, ast.Pow):
                if not (isinstance(node.right, ast.Constant) and 0 <= node.right.value <= 64):
                    self.fail_at(name, node, "a power with an exponent that is no literal")
            if isinstance(node, ast.Compare) and any(isinstance(op, (ast.Is, ast.IsNot)) for op in node.ops):
                sides = [node.left] + node.comparators
                self.assertTrue(any(isinstance(side, ast.Constant) for side in sides), f"{name}:{node.lineno}")

    def test_no_star_in_an_index(self):
        for name, node in self.each_node():
            if isinstance(node, ast.Subscript):
                for part in ast.walk(node.slice):
                    if isinstance(part, ast.Starred):
                        self.fail_at(name, part, "a star in the brackets of an index")

    def test_sets_stand_where_they_may(self):
        for name, node in self.each_node():
            if isinstance(node, ast.SetComp) or call_name(node) in ("set", "frozenset"):
                if call_name(node.parent) not in ("sorted", "len"):
                    self.fail_at(name, node, "a set that is kept")

    def test_views_are_gone_over_on_the_spot(self):
        for name, node in self.each_node():
            is_view = isinstance(node, ast.Call) and isinstance(node.func, ast.Attribute) and node.func.attr in (
                "items", "keys", "values")
            if call_name(node) in ("zip", "enumerate", "reversed", "range", "map") or is_view:
                above = node.parent
                at_once = isinstance(above, (ast.For, ast.comprehension)) and above.iter is node
                if not at_once and call_name(above) not in ON_THE_SPOT:
                    self.fail_at(name, node, "is not gone over on the spot")

    def test_names(self):
        every = set(dir(builtins)) - {"_"}
        for name, tree in self.trees.items():
            top = [part.name for part in tree.body if isinstance(part, ast.ClassDef)]
            for part in tree.body:
                if isinstance(part, ast.ImportFrom):
                    top.extend(alias.name for alias in part.names)
            for node in functions_in(tree):
                for bound in bound_names(node):
                    self.assertRegex(bound, r"^(_|_?[A-Za-z][A-Za-z0-9_]*)$")
                    self.assertNotIn(bound, every, f"{name}.{node.name}")
                    self.assertNotIn(bound, BARRED_NAMES, f"{name}.{node.name}")
                    self.assertNotIn(bound, top, f"{name}.{node.name}")
                if node.name not in DOUBLE:
                    self.assertFalse(node.name.startswith("__"))
                    self.assertNotIn(node.name, every | BARRED_NAMES, name)

    def test_loaded_names_are_known(self):
        for name, tree in self.trees.items():
            top = set(bound_names(tree))
            for part in tree.body:
                if isinstance(part, (ast.FunctionDef, ast.ClassDef)):
                    top.add(part.name)
                elif isinstance(part, ast.ImportFrom):
                    top.update(alias.name for alias in part.names)
            for node in ast.walk(tree):
                if isinstance(node, ast.Name) and node.id not in top:
                    self.assertIn(node.id, BUILTINS, f"{name}:{node.lineno}")

    def test_words(self):
        for name, text in self.files.items():
            tree = self.trees[name]
            lines = text.split("\n")
            for doc in docstrings_in(tree):
                for at in range(doc.lineno - 1, doc.end_lineno):
                    lines[at] = ""
            for line in lines:
                self.assertIsNone(BARRED_WORDS.search(line.split("#")[0]), f"{name}: {line}")
                self.assertNotIn("_wall", line)

    def test_methods(self):
        own = set()
        for tree in self.trees.values():
            for node in ast.walk(tree):
                if isinstance(node, ast.ClassDef):
                    own.update(part.name for part in node.body if isinstance(part, ast.FunctionDef))
        fields = self.attributes()
        for name, node in self.each_node():
            if isinstance(node, ast.Call) and isinstance(node.func, ast.Attribute):
                if node.func.attr not in METHODS | own | fields:
                    self.fail_at(name, node, f"{node.func.attr} is no method that may be called")
                if node.func.attr in METHODS and node.keywords:
                    self.fail_at(name, node, "keywords")
            if isinstance(node, ast.Attribute) and isinstance(node.ctx, ast.Load):
                if node.attr not in METHODS | own | fields:
                    self.fail_at(name, node, f"{node.attr} is assigned by no class")

    def attributes(self):
        told = set()
        for _, node in self.each_node():
            if isinstance(node, ast.Attribute) and isinstance(node.ctx, ast.Store):
                told.add(node.attr)
        return told

    def test_keywords_of_builtins(self):
        for name, node in self.each_node():
            called = call_name(node)
            if called in BUILTINS and node.keywords:
                allowed = {"sorted": ("key", "reverse"), "min": ("key", "default"), "max": ("key", "default")}
                for keyword in node.keywords:
                    self.assertIn(keyword.arg, allowed.get(called, ()), f"{name}:{node.lineno}")

    def test_classes(self):
        for name, tree in self.trees.items():
            for node in ast.walk(tree):
                if isinstance(node, ast.ClassDef):
                    self.check_class(name, node)

    def check_class(self, name, node):
        methods = [part.name for part in node.body if isinstance(part, ast.FunctionDef)]
        self.assertEqual(len(methods), len(set(methods)))
        for part in ast.walk(node):
            if isinstance(part, ast.Attribute) and isinstance(part.ctx, ast.Store):
                self.assertNotIn(part.attr, methods, f"{name}:{part.lineno}")
                self.assertNotIn(part.attr, "items keys values pop update append clear extend insert remove reverse "
                                 "setdefault sort args encode decode hex format mro".split())
        for method in methods:
            if method.startswith("__"):
                self.assertIn(method, DOUBLE, name)
        for part in node.body:
            if isinstance(part, ast.FunctionDef) and part.name == "__init__":
                self.assertFalse([x for x in ast.walk(part) if isinstance(x, ast.Return)])

    def test_operators_change_nothing(self):
        tables = self.tables()
        waiting = [found for key, found in tables["methods"] if key in OPERATORS | {"__eq__"}]
        done = []
        while waiting:
            name, function = waiting.pop()
            if function in done:
                continue
            done.append(function)
            self.check_pure(name, function)
            waiting.extend(self.called_by(name, function, tables))
        self.assertGreater(len(done), 20)

    def tables(self):
        functions, classes, methods = {}, {}, []
        for name, tree in self.trees.items():
            for part in tree.body:
                if isinstance(part, ast.FunctionDef):
                    functions[part.name] = functions.get(part.name, []) + [(name, part)]
                if isinstance(part, ast.ClassDef):
                    inner = [x for x in part.body if isinstance(x, ast.FunctionDef)]
                    classes[part.name] = [(name, x) for x in inner if x.name == "__init__"]
                    methods.extend((x.name, (name, x)) for x in inner)
        return {"functions": functions, "classes": classes, "methods": methods}

    def called_by(self, name, function, tables):
        told = []
        for node in ast.walk(function):
            if isinstance(node, ast.Call) and isinstance(node.func, ast.Name):
                told.extend(tables["functions"].get(node.func.id, []))
                told.extend(tables["classes"].get(node.func.id, []))
            elif isinstance(node, ast.Call) and isinstance(node.func, ast.Attribute):
                found = [other for key, other in tables["methods"] if key == node.func.attr]
                if not found and node.func.attr not in METHODS:
                    self.fail_at(name, node, "an operator calls what it holds")
                told.extend(found)
        return told

    def check_pure(self, name, function):
        bound = bound_names(function)
        created = self.created_in(function)
        for node in ast.walk(function):
            if isinstance(node, ast.Attribute) and isinstance(node.ctx, (ast.Store, ast.Del)):
                if function.name != "__init__":
                    self.fail_at(name, node, "an operator sets an attribute")
            if isinstance(node, ast.Subscript) and isinstance(node.ctx, (ast.Store, ast.Del)):
                if not (isinstance(node.value, ast.Name) and node.value.id in created):
                    self.fail_at(name, node, "an operator changes what it has not made")
            if isinstance(node, ast.Call) and isinstance(node.func, ast.Attribute) and node.func.attr in CHANGERS:
                if not (isinstance(node.func.value, ast.Name) and node.func.value.id in created):
                    self.fail_at(name, node, "an operator changes what it has not made")
            if isinstance(node, ast.Call) and isinstance(node.func, ast.Name) and node.func.id in bound:
                self.fail_at(name, node, "an operator calls what it is passed")
            if isinstance(node, ast.AugAssign):
                is_literal = isinstance(node.value, ast.Constant) and isinstance(node.value.value, int)
                is_less = isinstance(node.op, (ast.Sub, ast.FloorDiv)) and isinstance(node.target, ast.Name)
                if not is_less and not (isinstance(node.op, ast.Add) and is_literal):
                    self.fail_at(name, node, "an operator runs such an assignment")

    def created_in(self, function):
        made, other = set(), set(parameters_of(function))
        for node in ast.walk(function):
            if isinstance(node, ast.Assign):
                for target in node.targets:
                    if isinstance(target, ast.Name):
                        (made if is_created(node.value) else other).add(target.id)
            if isinstance(node, (ast.For, ast.comprehension)):
                other.update(part.id for part in ast.walk(node.target) if isinstance(part, ast.Name))
        return made - other


if __name__ == "__main__":
    unittest.main()
