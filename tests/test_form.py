"""The form of the package's files: the rules that can be read off the text of a file."""

import ast
import builtins
import pathlib
import re
import unittest

ROOT = pathlib.Path(__file__).resolve().parent.parent
PACKAGE = ROOT / "clockverdict"
FILES = sorted(PACKAGE.glob("*.py"))

LIBRARY = {
    "heapq": {"heappush", "heappop", "heapify", "heapreplace", "heappushpop"},
    "math": {"gcd", "lcm", "isqrt", "comb", "perm", "factorial"},
    "itertools": {"product", "combinations", "permutations"},
}

BUILTINS = set(
    "len range enumerate zip min max sum abs sorted reversed int str bool list tuple dict set isinstance ord repr "
    "any all divmod iter Exception ValueError TypeError KeyError IndexError LookupError ZeroDivisionError "
    "ArithmeticError OverflowError RuntimeError NotImplementedError NotImplemented map".split())

METHODS = set(
    "append clear copy count endswith extend find get index insert isalnum isalpha isdigit islower isspace isupper "
    "items join keys ljust lower lstrip partition pop remove replace reverse rfind rjust rpartition rsplit rstrip "
    "setdefault split splitlines startswith strip update upper values zfill bit_length add discard".split())

DUNDERS = set(
    "__init__ __eq__ __repr__ __str__ __len__ __iter__ __call__ __lt__ __le__ __gt__ __ge__ __ne__ __add__ __sub__ "
    "__mul__ __and__ __or__ __neg__ __bool__ __contains__ __getitem__ __radd__".split())

STATEMENTS = (ast.Assign, ast.AugAssign, ast.If, ast.While, ast.For, ast.Return, ast.Break, ast.Continue, ast.Pass,
              ast.Raise, ast.Assert, ast.Delete, ast.Try, ast.Expr, ast.FunctionDef, ast.ClassDef, ast.ImportFrom)

EXPRESSIONS = (ast.BoolOp, ast.BinOp, ast.UnaryOp, ast.IfExp, ast.Dict, ast.ListComp, ast.DictComp, ast.SetComp,
               ast.Compare, ast.Call, ast.Constant, ast.Attribute, ast.Subscript, ast.Name, ast.List, ast.Tuple,
               ast.Slice, ast.JoinedStr, ast.FormattedValue, ast.Starred, ast.Lambda, ast.Set, ast.Yield)

BARRED_NAMES = set(
    "register mro elements open input law version_info with_traceback add_note attrgetter breakpoint builtins compile "
    "copyright credits delattr dir eval exec exit gc getattr globals hasattr help id importlib license locals "
    "methodcaller os quit setattr super type vars sys".split())

BARRED_WORDS = set(
    "type typing typing_extensions enum Enum IntEnum StrEnum Flag IntFlag Generic Protocol ABC ABCMeta namedtuple "
    "NamedTuple TypedDict TYPE_CHECKING abstractmethod dataclass overload contextmanager".split())

BUILTIN_ATTRIBUTES = set()
for _kind in (str, int, list, dict, set, bytes, tuple):
    BUILTIN_ATTRIBUTES |= set(dir(_kind))
FREE_ATTRIBUTES = set("count index title find get join lower upper split strip copy add".split())


def tree_of(path):
    return ast.parse(path.read_text(), str(path))


def functions_of(tree):
    return [node for node in ast.walk(tree) if isinstance(node, ast.FunctionDef)]


def bound_names(tree):
    """All names that parameters, assignments, loops, handlers, functions, classes and imports bind, with lines."""
    for node in ast.walk(tree):
        if isinstance(node, ast.Name) and isinstance(node.ctx, (ast.Store, ast.Del)):
            yield node.id, node.lineno
        if isinstance(node, ast.arg):
            yield node.arg, node.lineno
        if isinstance(node, (ast.FunctionDef, ast.ClassDef)):
            yield node.name, node.lineno
        if isinstance(node, ast.ExceptHandler) and node.name:
            yield node.name, node.lineno
        if isinstance(node, ast.alias):
            yield node.name, node.lineno


def local_names(function):
    found = [argument.arg for argument in ast.walk(function.args) if isinstance(argument, ast.arg)]
    for node in ast.walk(function):
        if isinstance(node, ast.Name) and isinstance(node.ctx, ast.Store):
            found.append(node.id)
    return found


class FormTest(unittest.TestCase):
    def each(self):
        for path in FILES:
            yield path.name, tree_of(path)

    def test_the_folder_holds_files_of_the_package_alone(self):
        self.assertTrue(FILES)
        for path in PACKAGE.iterdir():
            if path.name != "__pycache__":
                self.assertRegex(path.name, r"^[a-z_][a-z0-9_]*\.py$")
        self.assertIn(PACKAGE / "__init__.py", FILES)

    def test_sizes_and_characters(self):
        for path in FILES:
            text = path.read_text()
            self.assertTrue(all([sign == "\n" or " " <= sign <= "~" for sign in text]), path.name)
            self.assertNotIn("_wall", text)
            lines = text.split("\n")
            self.assertLessEqual(len(lines), 399, path.name)
            self.assertLessEqual(max([len(line) for line in lines]), 120, path.name)
            for function in functions_of(tree_of(path)):
                self.assertLessEqual(function.end_lineno - function.lineno + 1, 40, (path.name, function.name))

    def test_imports(self):
        needs = {}
        for name, tree in self.each():
            needs[name] = set()
            for node in ast.walk(tree):
                self.assertNotIsInstance(node, ast.Import)
                if not isinstance(node, ast.ImportFrom):
                    continue
                self.assertEqual(node.level, 0)
                for alias in node.names:
                    self.assertIsNone(alias.asname)
                    if node.module in LIBRARY:
                        self.assertIn(alias.name, LIBRARY[node.module])
                    else:
                        self.assertRegex(node.module, r"^clockverdict\.[a-z]+$")
                        source = node.module.partition(".")[2] + ".py"
                        needs[name].add(source)
                        defined = {}
                        for other in tree_of(PACKAGE / source).body:
                            for bound, _ in bound_names(other):
                                defined[bound] = other
                        self.assertNotIsInstance(defined[alias.name], ast.ImportFrom)
        self.check_no_circle(needs)

    def check_no_circle(self, needs):
        left = dict(needs)
        while left:
            free = [name for name in left if not any([other in left for other in left[name]])]
            self.assertTrue(free, left)
            left = {name: left[name] for name in left if name not in free}

    def test_module_level(self):
        for name, tree in self.each():
            seen = set()
            for place, node in enumerate(tree.body):
                if isinstance(node, ast.Expr):
                    self.assertEqual(place, 0)
                    self.assertIsInstance(node.value.value, str)
                    continue
                self.assertIsInstance(node, (ast.ImportFrom, ast.FunctionDef, ast.ClassDef, ast.Assign))
                if isinstance(node, ast.Assign):
                    self.assertEqual(len(node.targets), 1)
                    self.check_plain(node.value, tree.body[:place])
                bound = [alias.name for alias in node.names] if isinstance(node, ast.ImportFrom) else [
                    node.targets[0].id if isinstance(node, ast.Assign) else node.name]
                for one in bound:
                    self.assertNotIn(one, seen, name)
                    seen.add(one)

    def check_plain(self, value, above):
        """A value written out, of literals and of functions that are defined above it; no list or dict within another."""
        functions = [node.name for node in above if isinstance(node, ast.FunctionDef)]
        for node in ast.walk(value):
            if isinstance(node, ast.Name):
                self.assertIn(node.id, functions)
            elif not isinstance(node, ast.expr_context):
                self.assertIsInstance(node, (ast.Constant, ast.Tuple, ast.List, ast.Dict, ast.UnaryOp, ast.USub))
            if node is not value:
                self.assertNotIsInstance(node, (ast.List, ast.Dict))

    def test_kinds_of_statements_and_expressions(self):
        for name, tree in self.each():
            for node in ast.walk(tree):
                if isinstance(node, ast.stmt):
                    self.assertIsInstance(node, STATEMENTS, (name, node.lineno))
                if isinstance(node, ast.expr):
                    self.assertIsInstance(node, EXPRESSIONS, (name, node.lineno))
                if isinstance(node, ast.Constant):
                    self.assertNotIsInstance(node.value, (float, complex, bytes), (name, node.lineno))
                self.assertNotIsInstance(node, (ast.Div, ast.MatMult), name)
                if isinstance(node, ast.Compare):
                    for sign, right in zip(node.ops, node.comparators):
                        if isinstance(sign, (ast.Is, ast.IsNot)):
                            self.assertIn(repr(getattr(right, "value", "")), ("None", "True", "False"))
                if isinstance(node, ast.FunctionDef):
                    self.assertIsNone(node.returns)
                    for decorator in node.decorator_list:
                        self.assertIn(ast.unparse(decorator), ("property", "staticmethod", "classmethod"))
                if isinstance(node, ast.arg):
                    self.assertIsNone(node.annotation)

    def test_strings(self):
        for name, tree in self.each():
            for node in ast.walk(tree):
                if isinstance(node, ast.Constant) and isinstance(node.value, str):
                    self.assertNotIn("%", node.value, (name, node.lineno))
                    self.assertNotIn("\t", node.value, (name, node.lineno))

    def test_names(self):
        for name, tree in self.each():
            for bound, line in bound_names(tree):
                if bound not in DUNDERS:
                    self.assertRegex(bound, r"^(_|_?[A-Za-z][A-Za-z0-9_]*)$", (name, line))
                self.assertNotIn(bound, BARRED_NAMES, (name, line))
                self.assertTrue(bound in DUNDERS or not hasattr(builtins, bound), (name, line, bound))
            for node in ast.walk(tree):
                if isinstance(node, ast.Name) and node.id == "_":
                    self.assertIsInstance(node.ctx, ast.Store, (name, node.lineno))

    def test_local_names_are_no_imports_and_no_classes(self):
        for name, tree in self.each():
            taken = set()
            for node in tree.body:
                if isinstance(node, ast.ImportFrom):
                    taken |= {alias.name for alias in node.names}
                if isinstance(node, ast.ClassDef):
                    taken.add(node.name)
            for function in functions_of(tree):
                for bound in local_names(function):
                    self.assertNotIn(bound, taken, (name, function.name))

    def test_builtins(self):
        for name, tree in self.each():
            own = {bound for bound, _ in bound_names(tree)}
            for node in ast.walk(tree):
                if isinstance(node, ast.Name) and isinstance(node.ctx, ast.Load) and node.id not in own:
                    if node.id not in ("property", "staticmethod", "classmethod"):
                        self.assertIn(node.id, BUILTINS, (name, node.lineno))

    def test_methods(self):
        own = set()
        for _, tree in self.each():
            for node in ast.walk(tree):
                if isinstance(node, ast.ClassDef):
                    own |= {part.name for part in node.body if isinstance(part, ast.FunctionDef)}
        for name, tree in self.each():
            for node in ast.walk(tree):
                if isinstance(node, ast.Call) and isinstance(node.func, ast.Attribute):
                    self.assertIn(node.func.attr, METHODS | own, (name, node.lineno))

    def test_attributes(self):
        for name, tree in self.each():
            for node in ast.walk(tree):
                if isinstance(node, ast.Attribute) and isinstance(node.ctx, ast.Store):
                    self.assertIsInstance(node.value, ast.Name)
                    self.assertFalse(node.attr in BUILTIN_ATTRIBUTES - FREE_ATTRIBUTES, (name, node.attr))
                    self.assertNotIn(node.attr, ("args", "format", "mro"))

    def test_double_underscores(self):
        for name, tree in self.each():
            for node in ast.walk(tree):
                if isinstance(node, ast.FunctionDef) and node.name.startswith("__"):
                    self.assertIn(node.name, DUNDERS, name)
                if isinstance(node, ast.Attribute) and node.attr.startswith("__"):
                    self.assertEqual(node.attr, "__init__", name)

    def test_sets_stand_only_where_they_may(self):
        for name, tree in self.each():
            free = set()
            for node in ast.walk(tree):
                if isinstance(node, ast.Call) and isinstance(node.func, ast.Name) and node.func.id in ("sorted", "len"):
                    free |= {id(part) for part in node.args}
                if isinstance(node, ast.Compare):
                    free |= {id(part) for part in [node.left] + node.comparators}
            for node in ast.walk(tree):
                is_set = isinstance(node, (ast.Set, ast.SetComp)) or (
                    isinstance(node, ast.Call) and isinstance(node.func, ast.Name) and node.func.id == "set")
                if is_set:
                    self.assertIn(id(node), free, (name, node.lineno))

    def test_barred_words(self):
        for path in FILES:
            code = "\n".join([line.partition("#")[0] for line in path.read_text().split("\n")])
            for docstring in re.findall(r'""".*?"""', code, re.S):
                code = code.replace(docstring, "")
            self.assertEqual(set(re.findall(r"\w+", code)) & BARRED_WORDS, set(), path.name)

    def test_iter_stands_in_the_one_form(self):
        for name, tree in self.each():
            for node in ast.walk(tree):
                if isinstance(node, ast.FunctionDef) and node.name == "__iter__":
                    self.assertEqual(len(node.body), 1)
                    self.assertRegex(ast.unparse(node.body[0]), r"^return iter\(self\._[a-z]+\)$")
            called = [node for node in ast.walk(tree) if isinstance(node, ast.Name) and node.id == "iter"]
            methods = [node for node in functions_of(tree) if node.name == "__iter__"]
            self.assertEqual(len(called), len(methods), name)

    def test_products_and_generators_are_iterated_at_once(self):
        generators = set()
        for _, tree in self.each():
            for function in functions_of(tree):
                if any([isinstance(node, ast.Yield) for node in ast.walk(function)]):
                    generators.add(function.name)
                    for node in ast.walk(function):
                        self.assertNotIn(getattr(node, "id", ""), LIBRARY["itertools"], function.name)
        for name, tree in self.each():
            self.assertNotIn("__len__", [function.name for function in functions_of(tree)])
            used = set()
            for node in ast.walk(tree):
                heads = [node.iter] if isinstance(node, (ast.For, ast.comprehension)) else []
                if isinstance(node, ast.Call) and isinstance(node.func, ast.Name) and node.func.id == "list":
                    heads = node.args
                used |= {id(head) for head in heads}
            for node in ast.walk(tree):
                if isinstance(node, ast.Call) and isinstance(node.func, ast.Name):
                    if node.func.id in generators or node.func.id in LIBRARY["itertools"]:
                        self.assertIn(id(node), used, (name, node.lineno))

    def test_operators_and_properties_assign_no_attribute(self):
        for name, tree in self.each():
            for function in functions_of(tree):
                decorators = [ast.unparse(decorator) for decorator in function.decorator_list]
                if "property" in decorators or (function.name.startswith("__") and function.name != "__init__"):
                    for node in ast.walk(function):
                        if isinstance(node, (ast.Attribute, ast.Subscript)):
                            self.assertIsInstance(node.ctx, ast.Load, (name, function.name))

    def test_every_error_that_is_caught_is_named(self):
        for name, tree in self.each():
            for node in ast.walk(tree):
                if isinstance(node, ast.ExceptHandler):
                    self.assertIsNotNone(node.type, (name, node.lineno))
                if isinstance(node, ast.Raise) and node.exc is not None:
                    self.assertIsInstance(node.exc, ast.Call, (name, node.lineno))


if __name__ == "__main__":
    unittest.main()
