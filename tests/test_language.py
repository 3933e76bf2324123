"""Holds the package against the rules of its language that can be looked up in the code."""

import ast
import builtins
import re
import unittest
from pathlib import Path

PACKAGE = Path(__file__).resolve().parent.parent / "pointtally"
BUILTINS = set(
    "len range enumerate zip min max sum abs sorted reversed int str bool list tuple dict set isinstance ord repr any all divmod "
    "property Exception ValueError TypeError KeyError IndexError LookupError ZeroDivisionError RuntimeError NotImplementedError".split()
)
LIBRARY = {"math": {"gcd", "lcm", "isqrt", "comb", "perm", "factorial"}, "itertools": {"product", "combinations", "permutations"},
           "heapq": {"heappush", "heappop", "heapify", "heapreplace", "heappushpop"}}
METHODS = set(
    "append clear copy count endswith extend find get index insert isalnum isalpha isdigit islower isspace isupper items join keys "
    "ljust lower lstrip partition pop remove replace reverse rfind rjust rpartition rsplit rstrip setdefault split splitlines "
    "startswith strip update upper values zfill bit_length".split()
)
STATEMENTS = (
    ast.Assign, ast.AugAssign, ast.If, ast.While, ast.For, ast.Return, ast.Break, ast.Continue, ast.Pass, ast.Raise, ast.Assert,
    ast.Delete, ast.Try, ast.Expr, ast.FunctionDef, ast.ClassDef, ast.ImportFrom,
)
BARRED_NODES = (
    ast.Global, ast.Nonlocal, ast.AsyncFunctionDef, ast.AsyncFor, ast.AsyncWith, ast.Await, ast.Yield, ast.YieldFrom, ast.Lambda,
    ast.GeneratorExp, ast.Set, ast.SetComp, ast.NamedExpr, ast.Div, ast.MatMult, ast.Import, ast.AnnAssign, ast.Match, ast.With,
)
BARRED_NAMES = set(
    "register mro elements open input law version_info with_traceback add_note breakpoint compile delattr dir eval exec exit gc "
    "globals help id locals os quit setattr super type vars getattr hasattr sys".split()
)
BARRED_WORDS = re.compile(
    r"\b(type|typing|typing_extensions|enum|Enum|IntEnum|StrEnum|Flag|IntFlag|Generic|Protocol|ABC|ABCMeta|namedtuple|NamedTuple|"
    r"TypedDict|TYPE_CHECKING|abstractmethod|_wall|_WallAttr)\b|dataclass|overload|contextmanager"
)
BARRED_STARTS = re.compile(r"_(pe|dcw|enum|cm|twin_re|lay|law|stub)_|_sre|_WallAttr|_(cold|tuplegetter|outside|record|written_out|member_names)[0-9_]*$")
ITERATORS = {"zip", "enumerate", "reversed", "range"}
TAKES_ITERATORS = {"list", "tuple", "dict", "sorted", "sum", "any", "all", "enumerate", "zip", "min", "max"}


def files():
    return sorted(PACKAGE.rglob("*.py"))


def trees():
    for path in files():
        yield path, ast.parse(path.read_text(encoding="utf-8"))


def functions_of(tree):
    return [node for node in ast.walk(tree) if isinstance(node, ast.FunctionDef)]


def bound_in(function):
    """Return the names of parameters and local variables of a function."""
    names = {arg.arg for arg in function.args.args + function.args.kwonlyargs}
    names |= {node.id for node in ast.walk(function) if isinstance(node, ast.Name) and isinstance(node.ctx, ast.Store)}
    return names | {node.name for node in ast.walk(function) if isinstance(node, ast.ExceptHandler) and node.name}


def methods_of(tree):
    """Return the set of what stands in the bodies of classes."""
    return {part for node in ast.walk(tree) if isinstance(node, ast.ClassDef) for part in node.body}


def names_in(tree):
    """Yield pairs (name, whether it is an attribute or a method) of all names that stand in a file."""
    methods = methods_of(tree)
    for node in ast.walk(tree):
        if isinstance(node, ast.Name):
            yield node.id, False
        elif isinstance(node, (ast.FunctionDef, ast.ClassDef)):
            yield node.name, node in methods
        elif isinstance(node, (ast.arg, ast.keyword)) and node.arg:
            yield node.arg, False
        elif isinstance(node, ast.Attribute):
            yield node.attr, True
        elif isinstance(node, ast.alias):
            yield node.name, False
            yield node.asname or "", False
        elif isinstance(node, ast.ImportFrom):
            for part in node.module.split("."):
                yield part, False
        elif isinstance(node, ast.ExceptHandler):
            yield node.name or "", False


def docstrings(tree):
    found = set()
    for node in ast.walk(tree):
        if isinstance(node, (ast.Module, ast.FunctionDef, ast.ClassDef)) and ast.get_docstring(node) is not None:
            found.add(node.body[0].value)
    return found


class Language(unittest.TestCase):
    def test_folder(self):
        self.assertTrue((PACKAGE / "__init__.py").exists())
        for path in PACKAGE.rglob("*"):
            if "__pycache__" not in path.parts:
                self.assertRegex(path.name, r"^[a-z0-9_]+\.py$")
                self.assertNotIn(path.stem, dir(builtins))
        self.assertLessEqual(len(files()), 100)

    def test_sizes_and_characters(self):
        for path, tree in trees():
            text = path.read_text(encoding="utf-8")
            with self.subTest(path.name):
                self.assertLessEqual(len(text.split("\n")), 400)
                self.assertRegex(text, r"\A[ -~\n]*\Z")
                self.assertLessEqual(max(len(line) for line in text.split("\n")), 120)
                for function in functions_of(tree):
                    self.assertLessEqual(function.end_lineno - function.lineno + 1, 40, function.name)

    def test_module_level(self):
        for path, tree in trees():
            bound = []
            for node in tree.body:
                with self.subTest(path.name, line=node.lineno):
                    self.assertIsInstance(node, (ast.Expr, ast.ImportFrom, ast.FunctionDef, ast.ClassDef, ast.Assign))
                    if isinstance(node, ast.Expr):
                        self.assertIsInstance(node.value, ast.Constant)
                    elif isinstance(node, ast.ImportFrom):
                        bound += [alias.name for alias in node.names]
                    elif isinstance(node, ast.Assign):
                        self.assertEqual(len(node.targets), 1)
                        self.assertIsInstance(node.targets[0], ast.Name)
                        # A table may stand there, but nothing that can be changed in it.
                        inner = [part for part in ast.walk(node.value) if part is not node.value]
                        self.assertFalse([part for part in inner if isinstance(part, (ast.Call, ast.List, ast.Dict))])
                        self.assertNotIsInstance(node.value, (ast.Call, ast.List))
                        bound.append(node.targets[0].id)
                    else:
                        bound.append(node.name)
            self.assertEqual(len(bound), len(set(bound)), path.name)
            self.assertFalse(set(bound) & set(dir(builtins)), path.name)

    def test_imports(self):
        defined, edges = {}, {}
        for path, tree in trees():
            defined[path.stem] = {node.name for node in tree.body if isinstance(node, (ast.FunctionDef, ast.ClassDef))}
            defined[path.stem] |= {node.targets[0].id for node in tree.body if isinstance(node, ast.Assign)}
        for path, tree in trees():
            edges[path.stem] = set()
            used = {node.id for node in ast.walk(tree) if isinstance(node, ast.Name)}
            for node in ast.walk(tree):
                if isinstance(node, ast.ImportFrom):
                    self.assertEqual(node.level, 0)
                    names = {alias.name for alias in node.names}
                    self.assertTrue(all(alias.asname is None for alias in node.names))
                    self.assertLessEqual(names, used, f"{path.name} imports what it does not use")
                    if node.module in LIBRARY:
                        self.assertLessEqual(names, LIBRARY[node.module])
                    else:
                        self.assertTrue(node.module.startswith("pointtally."))
                        edges[path.stem].add(node.module.split(".")[1])
                        self.assertLessEqual(names, defined[node.module.split(".")[1]], path.name)
        while edges:
            free = [name for name, needed in edges.items() if not needed & edges.keys()]
            self.assertTrue(free, f"imports in a circle among {sorted(edges)}")
            for name in free:
                del edges[name]

    def test_statements_and_expressions(self):
        for path, tree in trees():
            methods = methods_of(tree)
            for node in ast.walk(tree):
                with self.subTest(path.name, line=getattr(node, "lineno", 0)):
                    if isinstance(node, ast.stmt):
                        self.assertIsInstance(node, STATEMENTS)
                    self.assertNotIsInstance(node, BARRED_NODES)
                    if isinstance(node, ast.Compare) and isinstance(node.ops[0], (ast.Is, ast.IsNot)):
                        self.assertIn(ast.unparse(node.comparators[0]), ("None", "True", "False"))
                    if isinstance(node, ast.BinOp) and isinstance(node.op, ast.Pow):
                        self.assertIsInstance(node.right, ast.Constant)
                    if isinstance(node, (ast.FunctionDef, ast.ClassDef)):
                        told = [ast.unparse(decorator) for decorator in node.decorator_list]
                        self.assertIn(told, ([], ["property"]) if node in methods else ([],))
                    if isinstance(node, ast.arg):
                        self.assertIsNone(node.annotation)
                    if isinstance(node, ast.Expr) and not isinstance(node.value, ast.Constant):
                        self.assertIsInstance(node.value, ast.Call)
                    if isinstance(node, ast.Raise) and node.exc is not None:
                        self.assertIsInstance(node.exc, ast.Call)

    def test_strings(self):
        for path, tree in trees():
            told = docstrings(tree)
            for node in ast.walk(tree):
                if isinstance(node, ast.Constant) and node not in told:
                    self.assertNotIsInstance(node.value, (float, complex, bytes), path.name)
                    if isinstance(node.value, str):
                        self.assertNotIn("%", node.value, path.name)
                        self.assertNotRegex(node.value, r"^__.*__$|\._$|\.__$")
            code = ast.unparse(tree)
            for node in told:
                code = code.replace(node.value, "")
            self.assertNotRegex(code, BARRED_WORDS, path.name)

    def test_names(self):
        for path, tree in trees():
            imported = {alias.name for node in tree.body if isinstance(node, ast.ImportFrom) for alias in node.names}
            classes = {node.name for node in tree.body if isinstance(node, ast.ClassDef)}
            for function in functions_of(tree):
                with self.subTest(path.name, function=function.name):
                    bound = bound_in(function)
                    self.assertFalse(bound & (imported | classes | set(dir(builtins)) | BARRED_NAMES))
                    self.assertNotIn(function.name, set(dir(builtins)) | BARRED_NAMES)
                    inner = [node for node in ast.walk(function) if isinstance(node, (ast.FunctionDef, ast.ClassDef))]
                    self.assertEqual(inner, [function])
            for node in ast.walk(tree):
                if isinstance(node, ast.Name):
                    self.assertNotIn(node.id, BARRED_NAMES)
                    self.assertRegex(node.id, r"^_?[A-Za-z][A-Za-z0-9_]*$|^_$")
                    if node.id in dir(builtins):
                        self.assertIn(node.id, BUILTINS, path.name)
                    if node.id == "_":
                        self.assertIsInstance(node.ctx, ast.Store, path.name)

    def test_barred_starts(self):
        for path, tree in trees():
            for name, is_attribute in [(path.stem, False), *names_in(tree)]:
                self.assertIsNone(BARRED_STARTS.match(name), f"{path.name}: {name}")
                self.assertTrue(is_attribute or not name.startswith("_wall"), f"{path.name}: {name}")
            self.assertNotRegex(path.read_text(encoding="utf-8"), r"\b(_wall|_WallAttr)\b", path.name)

    def test_barred_starts_are_found(self):
        for code, found in (("def _walls_step(): pass", 1), ("class A:\n def _walls(self): self._wall_up = 1", 0), ("_record = 1", 1),
                            ("_record_2_ = 1", 1), ("_records = 1", 0), ("def f(_law_a): pass", 1), ("a._cm_b = 1", 1), ("_sreb = 1", 1),
                            ("f(_pe_a=1)", 1), ("from a import _stub_b", 1), ("_enumerated = 1", 0), ("_outside__9 = 1", 1), ("_law = 1", 0)):
            told = names_in(ast.parse(code))
            wrong = [name for name, free in told if BARRED_STARTS.match(name) or (name.startswith("_wall") and not free)]
            self.assertEqual(len(wrong), found, code)

    def test_calls(self):
        own = {function.name for _, tree in trees() for function in functions_of(tree)}
        for path, tree in trees():
            for node in ast.walk(tree):
                if isinstance(node, ast.Call):
                    with self.subTest(path.name, line=node.lineno):
                        self.assertIsInstance(node.func, (ast.Name, ast.Attribute))
                        starred = [arg for arg in node.args if isinstance(arg, ast.Starred)]
                        self.assertTrue(all(isinstance(arg.value, ast.Name) for arg in starred))
                        if starred:
                            self.assertIs(starred[0], node.args[-1])
                        if isinstance(node.func, ast.Attribute):
                            self.assertIn(node.func.attr, METHODS | own)
                        if isinstance(node.func, ast.Name) and node.func.id in BUILTINS:
                            self.assertFalse(any(isinstance(arg, ast.Starred) for arg in node.args) and node.func.id not in ("min", "max"))
                            self.assertLessEqual({word.arg for word in node.keywords}, {"key", "reverse", "default", "start", "strict"})

    def test_iterated_at_once(self):
        for path, tree in trees():
            fine = set()
            for node in ast.walk(tree):
                if isinstance(node, (ast.For, ast.comprehension)):
                    fine.add(node.iter)
                if isinstance(node, ast.Call) and isinstance(node.func, ast.Name) and node.func.id in TAKES_ITERATORS:
                    fine |= set(node.args)
            for node in ast.walk(tree):
                if isinstance(node, ast.Call) and isinstance(node.func, ast.Name) and node.func.id in ITERATORS:
                    self.assertIn(node, fine, f"{path.name}:{node.lineno}")

    def test_classes(self):
        for path, tree in trees():
            for node in tree.body:
                if isinstance(node, ast.ClassDef):
                    methods = {part.name for part in node.body if isinstance(part, ast.FunctionDef)}
                    for part in node.body:
                        self.assertTrue(isinstance(part, ast.FunctionDef) or isinstance(part, ast.Expr), path.name)
                    stored = {part.attr for part in ast.walk(node) if isinstance(part, ast.Attribute) and isinstance(part.ctx, ast.Store)}
                    self.assertFalse(methods & stored)
                    self.assertEqual(len(methods), len([part for part in node.body if isinstance(part, ast.FunctionDef)]))
                    self.assertFalse({name for name in methods if name.startswith("__")} - {"__init__"})


if __name__ == "__main__":
    unittest.main()
