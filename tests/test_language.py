"""The subset of Python that the package keeps to, as far as a look at the code can tell."""

import ast
import builtins
import pathlib
import re
import unittest

FOLDER = pathlib.Path(__file__).resolve().parent.parent / "hushedwires"
LIBRARY = {"heapq": {"heappush", "heappop", "heapify"}, "math": {"gcd", "lcm", "isqrt", "comb", "perm", "factorial"}}
BUILTINS = set("""len range enumerate zip min max sum abs sorted reversed int str bool list tuple dict set isinstance
    ord repr any all divmod iter property staticmethod ValueError KeyError ZeroDivisionError""".split())
METHODS = set("""append clear copy count endswith extend find get index insert isalnum isalpha isdigit islower isspace
    isupper items join keys ljust lower lstrip partition pop remove replace reverse rfind rjust rpartition rsplit rstrip
    setdefault split splitlines startswith strip update upper values zfill bit_length title capitalize removeprefix
    removesuffix rindex isascii""".split())
UNUSED = set("""register mro elements open input law version_info with_traceback add_note attrgetter breakpoint
    compile copyright credits delattr dir eval exec exit gc globals help id importlib license locals
    methodcaller os quit setattr getattr hasattr super type vars sys __name__ format format_map""".split())
WORDS = re.compile(r"typing|\b(type|enum|Enum|Flag|Generic|Protocol|ABC|namedtuple|NamedTuple|abstractmethod)\b"
                   r"|dataclass|overload|contextmanager|_wall|_WallAttr")
AT_ONCE = {"list", "tuple", "dict", "sorted", "sum", "any", "all", "enumerate", "zip", "min", "max"}
SPECIAL = {"__init__", "__eq__", "__len__", "__iter__", "__enter__", "__exit__"}
STATEMENTS = (ast.Assign, ast.AugAssign, ast.If, ast.While, ast.For, ast.Return, ast.Break, ast.Continue, ast.Pass,
              ast.Raise, ast.Assert, ast.Delete, ast.Try, ast.With, ast.Expr, ast.FunctionDef, ast.ClassDef,
              ast.ImportFrom)

FILES = {path.stem: path.read_text(encoding="utf-8") for path in sorted(FOLDER.glob("*.py"))}
TREES = {name: ast.parse(text) for name, text in FILES.items()}


def nodes(kind):
    for name, tree in TREES.items():
        for node in ast.walk(tree):
            if isinstance(node, kind):
                yield f"{name}.py:{getattr(node, 'lineno', 0)}", node


def with_parents():
    for name, tree in TREES.items():
        for parent in ast.walk(tree):
            for node in ast.iter_child_nodes(parent):
                yield f"{name}.py:{getattr(node, 'lineno', 0)}", node, parent


def is_call(node, names):
    return isinstance(node, ast.Call) and isinstance(node.func, ast.Name) and node.func.id in names


def defined(tree):
    """The names that a file binds at module level, imports apart, with repetitions."""
    told = []
    for node in tree.body:
        if isinstance(node, (ast.FunctionDef, ast.ClassDef)):
            told.append(node.name)
        if isinstance(node, ast.Assign):
            told += [target.id for target in node.targets]
    return told


def imported(tree):
    return [alias.name for node in tree.body if isinstance(node, ast.ImportFrom) for alias in node.names]


def functions(tree):
    return [node for node in ast.walk(tree) if isinstance(node, ast.FunctionDef)]


def local_names(function):
    given = function.args
    names = {one.arg for one in given.posonlyargs + given.args + given.kwonlyargs + [given.vararg] if one}
    for node in ast.walk(function):
        if isinstance(node, ast.Name) and isinstance(node.ctx, ast.Store):
            names.add(node.id)
        if isinstance(node, ast.ExceptHandler) and node.name:
            names.add(node.name)
    return names


class FilesTest(unittest.TestCase):
    def test_folder(self):
        for path in FOLDER.iterdir():
            self.assertTrue(path.name == "__pycache__" or re.fullmatch(r"[a-z_]+\.py", path.name), path)

    def test_sizes_and_characters(self):
        for name, text in FILES.items():
            rows = text.split("\n")
            self.assertLessEqual(len(rows), 399, name)
            self.assertLessEqual(max(map(len, rows)), 120, name)
            self.assertEqual(set(text) - set(map(chr, range(32, 127))) - {"\n"}, set(), name)
            self.assertNotRegex("\n".join(row.split("#")[0] for row in rows if '"""' not in row), WORDS, name)
            for function in functions(TREES[name]):
                self.assertLessEqual(function.end_lineno - function.lineno, 39, function.name)

    def test_imports(self):
        for name, tree in TREES.items():
            self.assertEqual([place for place, _ in nodes(ast.Import)], [])
            for node in ast.walk(tree):
                if isinstance(node, ast.ImportFrom):
                    self.assertIn(node, tree.body)
                    self.assertEqual(node.level, 0)
                    for alias in node.names:
                        self.assertIsNone(alias.asname)
                        if node.module in LIBRARY:
                            self.assertIn(alias.name, LIBRARY[node.module])
                        else:
                            self.assertTrue(node.module.startswith("hushedwires."), node.module)
                            self.assertIn(alias.name, defined(TREES[node.module.split(".")[1]]), name)

    def test_no_circles_of_imports(self):
        needs = {name: {node.module.split(".")[1] for node in tree.body if isinstance(node, ast.ImportFrom)
                        and node.module.startswith("hushedwires.")} for name, tree in TREES.items()}
        while needs:
            free = [name for name in needs if not needs[name] & set(needs)]
            self.assertTrue(free, needs)
            needs = {name: needs[name] for name in needs if name not in free}

    def test_imports_are_used(self):
        for name, tree in TREES.items():
            read = {node.id for node in ast.walk(tree) if isinstance(node, ast.Name)}
            self.assertEqual(set(imported(tree)) - read, set(), name)

    def test_module_level(self):
        for name, tree in TREES.items():
            for number, node in enumerate(tree.body):
                is_told = number == 0 and isinstance(node, ast.Expr) and isinstance(node.value, ast.Constant)
                kinds = (ast.ImportFrom, ast.FunctionDef, ast.ClassDef, ast.Assign)
                self.assertTrue(is_told or isinstance(node, kinds), name)
            bound = defined(tree) + imported(tree)
            self.assertEqual(len(bound), len(set(bound)), name)


class NamesTest(unittest.TestCase):
    def test_names(self):
        bound = {name for tree in TREES.values() for name in defined(tree) + imported(tree)}
        for name, tree in TREES.items():
            taken = set(imported(tree)) | {node.name for node in ast.walk(tree) if isinstance(node, ast.ClassDef)}
            for function in functions(tree):
                names = local_names(function)
                self.assertEqual(names & (taken | set(dir(builtins)) | UNUSED), set(), (name, function.name))
                for one in names | {function.name}:
                    self.assertTrue(one in SPECIAL | {"_"} or re.fullmatch(r"_?[a-zA-Z][a-zA-Z0-9_]*", one), one)
        self.assertEqual(bound & (set(dir(builtins)) | UNUSED), set())

    def test_builtins(self):
        for name, tree in TREES.items():
            own = set(defined(tree)) | set(imported(tree))
            for function in functions(tree):
                own |= local_names(function)
            for node in ast.walk(tree):
                if isinstance(node, ast.Name) and node.id not in own:
                    self.assertIn(node.id, BUILTINS, name)

    def test_methods_and_attributes(self):
        methods, stored = set(), set()
        for _, node in nodes(ast.ClassDef):
            for function in node.body:
                if isinstance(function, ast.FunctionDef):
                    methods.add(function.name)
        for _, node in nodes(ast.Attribute):
            if isinstance(node.ctx, ast.Store):
                stored.add(node.attr)
        self.assertEqual(methods & stored, set())
        self.assertEqual((methods | stored) & (UNUSED | METHODS) - {"index"}, set())
        for value in (0, "", b"", [], {}, set(), ()):
            self.assertEqual((methods - SPECIAL) & set(dir(value)), set())
        for place, node in nodes(ast.Call):
            if isinstance(node.func, ast.Attribute):
                self.assertIn(node.func.attr, methods | METHODS, place)
        for place, node in nodes(ast.Attribute):
            self.assertIn(node.attr, methods | stored | METHODS, place)

    def test_classes(self):
        for place, node in nodes(ast.ClassDef):
            self.assertEqual(node.decorator_list, [], place)
            for one in node.body:
                is_told = isinstance(one, ast.Expr) and isinstance(one.value, ast.Constant)
                self.assertTrue(is_told or isinstance(one, ast.FunctionDef), place)
                if isinstance(one, ast.FunctionDef):
                    self.assertTrue(one.name in SPECIAL or not one.name.startswith("__"), place)
                if isinstance(one, ast.FunctionDef) and one.name == "__len__":
                    self.assertTrue(is_call(one.body[-1].value, {"len"}), place)


class StatementsTest(unittest.TestCase):
    def test_statements(self):
        for place, node in nodes(ast.stmt):
            self.assertIsInstance(node, STATEMENTS, place)
        for place, node in nodes(ast.FunctionDef):
            for one in node.decorator_list:
                self.assertIn(one.id, ("property", "staticmethod"), place)
            given = node.args
            self.assertIsNone(node.returns, place)
            self.assertTrue(all(one.annotation is None for one in given.args + given.kwonlyargs), place)
            self.assertEqual((given.kwarg, given.posonlyargs), (None, []), place)
            self.assertTrue(given.vararg is None or node.name in ("make_all", "grants"), place)

    def test_blocks(self):
        for place, node in nodes(ast.With):
            self.assertEqual(len(node.items), 1, place)
            self.assertIsInstance(node.items[0].context_expr, ast.Call, place)
            self.assertIsInstance(node.items[0].optional_vars, ast.Name, place)
        for place, node in nodes(ast.FunctionDef):
            if node.name == "__exit__":
                self.assertEqual([one.arg for one in node.args.args], ["self", "kind", "value", "trace"], place)
                for one in node.body:
                    self.assertIsInstance(one, ast.Assign, place)
                    self.assertIsInstance(one.value, ast.Attribute, place)

    def test_errors(self):
        own = set(defined(TREES["errors"]))
        for place, node in nodes(ast.Raise):
            self.assertTrue(is_call(node.exc, own), place)
            self.assertTrue(node.cause is None or node.cause.value is None, place)
        for place, node in nodes(ast.ExceptHandler):
            self.assertIn(node.type.id, own, place)

    def test_values(self):
        kinds = (ast.GeneratorExp, ast.Lambda, ast.Starred, ast.NamedExpr, ast.Set, ast.SetComp, ast.Div, ast.Await,
                 ast.YieldFrom, ast.AnnAssign, ast.Global, ast.Nonlocal)
        self.assertEqual([place for place, _ in nodes(kinds)], [])
        for place, node in nodes(ast.Constant):
            self.assertIsInstance(node.value, (int, str, type(None)), place)
            if isinstance(node.value, str):
                self.assertNotIn("%", node.value, place)
        for place, node in nodes(ast.BinOp):
            if isinstance(node.op, ast.Pow):
                self.assertIsInstance(node.right, ast.Constant, place)
                self.assertLessEqual(node.right.value, 64, place)
        for place, node in nodes(ast.Compare):
            if any(isinstance(sign, (ast.Is, ast.IsNot)) for sign in node.ops):
                self.assertIsNone(node.comparators[0].value, place)

    def test_iterated_at_once(self):
        for place, node, parent in with_parents():
            if is_call(node, {"zip", "enumerate", "reversed", "range"}):
                is_looped = isinstance(parent, (ast.For, ast.comprehension)) and parent.iter is node
                is_taken = is_call(parent, AT_ONCE | ({"len", "reversed"} if is_call(node, {"range"}) else set()))
                self.assertTrue(is_looped or is_taken, place)
            if is_call(node, {"set"}):
                self.assertTrue(is_call(parent, {"sorted", "len"}), place)

    def test_generators(self):
        names = {node.name for _, node in nodes(ast.FunctionDef)
                 if any(isinstance(one, ast.Yield) for one in ast.walk(node))}
        for place, node, parent in with_parents():
            if is_call(node, names):
                is_looped = isinstance(parent, (ast.For, ast.comprehension)) and parent.iter is node
                self.assertTrue(is_looped or is_call(parent, AT_ONCE), place)

    def test_keywords(self):
        for place, node in nodes(ast.Call):
            if isinstance(node.func, ast.Name) and node.func.id in BUILTINS:
                self.assertEqual([one.arg for one in node.keywords], [], place)

    def test_docstrings(self):
        for name, tree in TREES.items():
            self.assertTrue(ast.get_docstring(tree), name)
            for node in tree.body:
                if isinstance(node, ast.FunctionDef) and not node.name.startswith("_"):
                    self.assertTrue(ast.get_docstring(node), node.name)


if __name__ == "__main__":
    unittest.main()
