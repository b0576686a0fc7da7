"""The package keeps to its subset of Python, as far as simple rules can tell."""

import ast
import builtins
import os
import re
import unittest

ROOT = os.path.dirname(os.path.dirname(os.path.abspath(__file__)))
PACKAGE = os.path.join(ROOT, "settledcases")

BUILTINS = set("""
    len range enumerate zip min max sum abs sorted reversed int str bool list tuple dict set isinstance ord repr any all
    divmod iter next super property staticmethod classmethod NotImplemented Exception ValueError TypeError KeyError
    IndexError LookupError ZeroDivisionError ArithmeticError OverflowError RuntimeError NotImplementedError
""".split())
METHODS = set("""
    append clear copy count endswith extend find get index insert isalnum isalpha isdigit islower isspace isupper items
    join keys ljust lower lstrip partition pop remove replace reverse rfind rjust rpartition rsplit rstrip setdefault
    split splitlines startswith strip update upper values zfill bit_length add discard sort __init__
""".split())
LIBRARY = {
    "heapq": {"heappush", "heappop", "heapify", "heapreplace", "heappushpop"},
    "math": {"gcd", "lcm", "isqrt", "comb", "perm", "factorial"},
    "itertools": {"product", "combinations", "permutations"},
}
SPECIAL = set("""
    init eq repr str len enter exit call iter lt le gt ge ne add sub mul floordiv mod pow and or xor lshift rshift neg pos
    invert abs bool contains getitem setitem iadd isub
""".split())
BARRED = set("""
    register mro elements open input law version_info with_traceback add_note attrgetter breakpoint builtins compile
    copyright credits delattr dir eval exec exit gc getattr globals hasattr help id importlib license locals methodcaller
    os quit setattr type vars sys
""".split())
BARRED_WORDS = re.compile(r"\b(type|typing|enum|Enum|Generic|Protocol|ABC|namedtuple|NamedTuple|_wall|_WallAttr)\b|dataclass")
ITERATED = {"zip", "enumerate", "reversed", "map"}
VIEWS = {"items", "keys", "values"}
TAKERS = {"list", "tuple", "dict", "sorted", "sum", "any", "all", "enumerate", "zip", "min", "max"}
NODES = (
    ast.Global, ast.AsyncFunctionDef, ast.AsyncFor, ast.AsyncWith, ast.Await, ast.Div, ast.AnnAssign, ast.Set,
    ast.MatMult, ast.Import,
)


def sources():
    """The text and the tree of each file of the package."""
    for name in sorted(os.listdir(PACKAGE)):
        if name.endswith(".py"):
            with open(os.path.join(PACKAGE, name), encoding="utf-8") as file:
                text = file.read()
            yield name, text, ast.parse(text)


FILES = list(sources())
TREES = {name: tree for name, _, tree in FILES}


def nodes_of(tree, *kinds):
    return [node for node in ast.walk(tree) if isinstance(node, kinds)]


def parents_of(tree):
    return {child: node for node in ast.walk(tree) for child in ast.iter_child_nodes(node)}


def parameters_of(function):
    args = function.args
    found = args.posonlyargs + args.args + args.kwonlyargs + [arg for arg in (args.vararg, args.kwarg) if arg]
    return [arg.arg for arg in found]


def captures_of(node):
    """The names that patterns capture."""
    found = nodes_of(node, ast.MatchAs, ast.MatchStar)
    return [pattern.name for pattern in found if pattern.name is not None]


def local_names(function):
    """The parameters of a function and the names that it assigns or captures."""
    stores = [node.id for node in nodes_of(function, ast.Name) if not isinstance(node.ctx, ast.Load)]
    return parameters_of(function) + stores + captures_of(function)


def module_names(tree):
    """The names that a file binds, without its imports."""
    found = [node.name for node in tree.body if isinstance(node, (ast.FunctionDef, ast.ClassDef))]
    return found + [node.targets[0].id for node in tree.body if isinstance(node, ast.Assign)]


def imported_names(tree):
    return [alias.name for node in nodes_of(tree, ast.ImportFrom) for alias in node.names]


def is_generator(function):
    return bool(nodes_of(function, ast.Yield, ast.YieldFrom)) and function.name != "__iter__"


class FormTest(unittest.TestCase):
    def each(self, *kinds):
        for name, tree in TREES.items():
            for node in nodes_of(tree, *kinds):
                yield f"{name}:{getattr(node, 'lineno', 0)}", node

    def test_files(self):
        """L1, L10, L14, L27."""
        names = [name for name in os.listdir(PACKAGE) if name != "__pycache__"]
        self.assertEqual(sorted(names), sorted(TREES))
        self.assertLessEqual(len(names), 100)
        for name, text, _ in FILES:
            self.assertRegex(name, r"^[a-z_][a-z0-9_]*\.py$")
            self.assertNotRegex(text, r"[^\n -~]")
            lines = text.split("\n")
            self.assertLessEqual(len(lines), 399, name)
            self.assertLessEqual(max(len(line) for line in lines), 120, name)
            code = re.sub(r'"""[^"]*"""|#[^\n]*', "", text)
            self.assertIsNone(BARRED_WORDS.search(code), name)

    def test_functions(self):
        """L4, L10."""
        for place, node in self.each(ast.FunctionDef):
            self.assertLessEqual(node.end_lineno - node.lineno + 1, 40, place)
            for decorator in node.decorator_list:
                self.assertIn(ast.unparse(decorator), ("property", "staticmethod", "classmethod"), place)

    def test_module_level(self):
        """L2, L3, L15, L16."""
        for name, tree in TREES.items():
            bound = module_names(tree) + imported_names(tree)
            self.assertEqual(len(set(bound)), len(bound), name)
            rest = [node for node in tree.body if not isinstance(node, ast.ImportFrom)]
            self.assertTrue(isinstance(rest[0], ast.Expr) and isinstance(rest[0].value.value, str), name)
            self.assertEqual(tree.body[0], rest[0], name)
            for node in rest[1:]:
                self.assertIsInstance(node, (ast.FunctionDef, ast.ClassDef, ast.Assign), name)

    def test_imports(self):
        """L2, L16."""
        for place, node in self.each(ast.ImportFrom):
            self.assertEqual((node.level, [alias.asname for alias in node.names]), (0, [None] * len(node.names)), place)
            for alias in node.names:
                if node.module in LIBRARY:
                    self.assertIn(alias.name, LIBRARY[node.module], place)
                else:
                    package, _, file = node.module.partition(".")
                    self.assertEqual(package, "settledcases", place)
                    self.assertIn(alias.name, module_names(TREES[file + ".py"]), place)

    def test_every_import_is_used(self):
        for name, tree in TREES.items():
            used = [node.id for node in nodes_of(tree, ast.Name)]
            for word in imported_names(tree):
                self.assertIn(word, used, name)

    def test_no_circle_of_imports(self):
        """L16."""
        left = {name: {node.module.partition(".")[2] + ".py" for node in nodes_of(tree, ast.ImportFrom)
                       if node.module not in LIBRARY} for name, tree in TREES.items()}
        while left:
            free = [name for name in left if not left[name] & set(left)]
            self.assertNotEqual(free, [], f"files that import from each other: {sorted(left)}")
            left = {name: left[name] for name in left if name not in free}

    def test_nodes(self):
        """L6, L7, L21, L27."""
        for place, node in self.each(*NODES):
            self.fail(f"{place} {ast.dump(node)}")
        for place, node in self.each(ast.Constant):
            if isinstance(node.value, str):
                self.assertNotIn("%", node.value, place)
            self.assertNotIsInstance(node.value, (float, complex, bytes), place)
        for place, node in self.each(ast.Compare):
            for sign, other in zip(node.ops, node.comparators):
                if isinstance(sign, (ast.Is, ast.IsNot)):
                    self.assertIn(getattr(other, "value", "no"), (None, True, False), place)

    def test_names(self):
        """L8, L12, L15, L17."""
        # Running examples leaves the last result in builtins as "_".
        barred = BARRED | set(dir(builtins)) - {"_"}
        for name, tree in TREES.items():
            outer = module_names(tree)
            classes = [node.name for node in nodes_of(tree, ast.ClassDef)]
            self.assertEqual(set(outer) & barred, set(), name)
            for function in nodes_of(tree, ast.FunctionDef, ast.Lambda):
                own = local_names(function)
                taken = barred | set(classes) | set(imported_names(tree))
                self.assertEqual(set(own) & taken, set(), f"{name}:{function.lineno}")
                for word in own:
                    self.assertRegex(word, r"^(_|_?[A-Za-z][A-Za-z0-9_]*)$")
                for node in nodes_of(function, ast.Name):
                    known = set(own) | set(outer) | set(imported_names(tree)) | BUILTINS
                    self.assertIn(node.id, known, f"{name}:{node.lineno}")
                    self.assertFalse(node.id == "_" and isinstance(node.ctx, ast.Load), f"{name}:{node.lineno}")

    def test_methods_and_attributes(self):
        """L5, L18, L25, L26, L28."""
        methods, attributes = {}, set()
        for _, owner in self.each(ast.ClassDef):
            for node in owner.body:
                if isinstance(node, ast.FunctionDef):
                    methods.setdefault(node.name, []).append(owner.name)
                    if node.name.startswith("__"):
                        self.assertIn(node.name.strip("_"), SPECIAL, owner.name)
            own = [node.name for node in owner.body if isinstance(node, ast.FunctionDef)]
            self.assertEqual(len(set(own)), len(own), owner.name)
            stores = {node.attr for node in nodes_of(owner, ast.Attribute) if isinstance(node.ctx, ast.Store)}
            stores |= {node.targets[0].id for node in owner.body if isinstance(node, ast.Assign)}
            attributes |= stores
        self.assertEqual(attributes & set(methods), set())
        self.assertEqual(set(methods) & (METHODS - {"__init__", "add", "discard"}), set())
        for place, node in self.each(ast.Attribute):
            self.assertIn(node.attr, attributes | set(methods) | METHODS, place)

    def test_captured_names(self):
        """L6: a captured name is read only in its own case, and nothing else in the function has it."""
        for place, function in self.each(ast.FunctionDef):
            names, captured = nodes_of(function, ast.Name), set(captures_of(function))
            stored = parameters_of(function) + [node.id for node in names if isinstance(node.ctx, ast.Store)]
            self.assertEqual(captured & set(stored), set(), place)
            cases = [case for match in nodes_of(function, ast.Match) for case in match.cases]
            own = {node: captures_of(case.pattern) for case in cases for node in ast.walk(case)}
            for node in names:
                self.assertTrue(node.id not in captured or node.id in own.get(node, []), place)

    def test_patterns(self):
        """L6."""
        for place, match in self.each(ast.Match):
            for case in match.cases:
                names = captures_of(case.pattern)
                self.assertEqual(len(set(names)), len(names), place)
                for node in nodes_of(case, ast.Lambda, ast.GeneratorExp, ast.ListComp, ast.SetComp, ast.DictComp):
                    self.assertEqual({name.id for name in nodes_of(node, ast.Name)} & set(names), set(), place)
                takes_all = isinstance(case.pattern, ast.MatchAs) and case.guard is None
                self.assertTrue(not takes_all or case is match.cases[-1], place)
        for place, node in self.each(ast.MatchValue):
            self.assertIsInstance(node.value.value, (str, int), place)
        for place, _ in self.each(ast.MatchClass, ast.MatchMapping):
            self.fail(place)

    def test_context_managers(self):
        """L6: the rows of an __exit__ only put attributes back."""
        allowed = (
            ast.If, ast.Assign, ast.Attribute, ast.Name, ast.Compare, ast.IsNot, ast.Constant, ast.Load, ast.Store,
        )
        for place, function in self.each(ast.FunctionDef):
            if function.name == "__exit__":
                for node in [part for statement in function.body for part in ast.walk(statement)]:
                    self.assertIsInstance(node, allowed, place)
                self.assertEqual({node.id for node in nodes_of(function, ast.Name)}, {"self", "kind"}, place)

    def test_super(self):
        """L5: only as a call of a method, directly in a method."""
        for name, tree in TREES.items():
            parents = parents_of(tree)
            for node in nodes_of(tree, ast.Name):
                if node.id == "super":
                    call, attribute = parents[node], parents[parents[node]]
                    self.assertTrue(isinstance(call, ast.Call) and not call.args
                                    and isinstance(attribute, ast.Attribute), name)
                    self.assertTrue(isinstance(parents[attribute], ast.Call) and not attribute.attr.startswith("_"),
                                    name)

    def test_words_beside_items(self):
        """L17: barred in a package with __getitem__, in comments, too."""
        for name, text, _ in FILES:
            for word in ("(type)", "Meta", "metaclass="):
                self.assertNotIn(word, text, name)

    def test_sets(self):
        """L24."""
        for name, tree in TREES.items():
            parents = parents_of(tree)
            calls = [node for node in nodes_of(tree, ast.Call) if isinstance(node.func, ast.Name)
                     and node.func.id == "set"]
            for node in calls + nodes_of(tree, ast.SetComp):
                parent = parents[node]
                taken = isinstance(parent, ast.Call) and getattr(parent.func, "id", "") in ("sorted", "len")
                tested = isinstance(parent, ast.Compare)
                stored = isinstance(parent, ast.Assign) and isinstance(parent.targets[0], ast.Name)
                self.assertTrue(taken or tested or stored, f"{name}:{node.lineno}")

    def test_iterated_at_once(self):
        """L23."""
        generators = {node.name for _, node in self.each(ast.FunctionDef) if is_generator(node)}
        names = [node.name for _, node in self.each(ast.FunctionDef)]
        for generator in generators:
            self.assertEqual(names.count(generator), 1, generator)
        for name, tree in TREES.items():
            parents = parents_of(tree)
            for node in nodes_of(tree, ast.Call):
                called = node.func.id if isinstance(node.func, ast.Name) else ""
                view = isinstance(node.func, ast.Attribute) and node.func.attr in VIEWS
                if called in ITERATED | generators or view:
                    parent = parents[node]
                    looped = isinstance(parent, (ast.For, ast.comprehension)) and parent.iter is node
                    taken = isinstance(parent, ast.Call) and getattr(parent.func, "id", "") in TAKERS
                    passed_on = isinstance(parent, ast.YieldFrom)
                    self.assertTrue(looped or taken or passed_on, f"{name}:{node.lineno}")

    def test_generator_expressions(self):
        """L5, L7."""
        for name, tree in TREES.items():
            parents = parents_of(tree)
            for node in nodes_of(tree, ast.GeneratorExp):
                parent = parents[node]
                self.assertIn(getattr(parent.func, "id", "join"), TAKERS - {"sorted", "zip", "enumerate"} | {"join"},
                              f"{name}:{node.lineno}")

    def test_errors(self):
        """L19."""
        for place, node in self.each(ast.Raise):
            if node.exc is not None:
                self.assertIsInstance(node.exc, ast.Call, place)
                self.assertIn(node.exc.func.id, module_names(TREES["errors.py"]), place)
                self.assertTrue(node.cause is None or node.cause.value is None, place)
        for place, node in self.each(ast.ExceptHandler):
            self.assertIn(node.type.id, module_names(TREES["errors.py"]) + ["KeyError", "ZeroDivisionError"], place)

    def test_loops_do_not_change_what_they_go_over(self):
        """L23."""
        for place, loop in self.each(ast.For):
            over = ast.unparse(loop.iter)
            for node in [part for statement in loop.body for part in ast.walk(statement)]:
                if isinstance(node, ast.Call) and isinstance(node.func, ast.Attribute) and node.func.attr in (
                        "append", "extend", "insert", "pop", "remove", "clear", "update", "setdefault", "reverse",
                        "sort"):
                    self.assertNotIn(ast.unparse(node.func.value), re.split(r"[^\w.\[\]]", over), place)
