"""The rules of the language that a program can check by looking at the code; narrower here where that is simpler."""
import ast
import os
import re
import unittest

PACKAGE = "fewcorners"
FOLDER = os.path.join(os.path.dirname(os.path.dirname(os.path.abspath(__file__))), PACKAGE)

BUILTINS = set("""len range enumerate zip min max sum abs sorted reversed int str bool bytes list tuple dict set isinstance
ord repr any all divmod Exception ValueError TypeError KeyError IndexError LookupError ZeroDivisionError ArithmeticError
OverflowError RuntimeError NotImplementedError NotImplemented property classmethod staticmethod super""".split())
LIBRARY = {
    "math": {"gcd", "lcm", "isqrt", "comb", "perm", "factorial"},
    "heapq": {"heappush", "heappop", "heapify", "heapreplace", "heappushpop"},
}
METHODS = set("""append clear copy count endswith extend find get index insert isalnum isalpha isdigit islower isspace
isupper items join keys ljust lower lstrip partition pop remove replace reverse rfind rjust rpartition rsplit rstrip
setdefault split splitlines startswith strip update upper values zfill bit_length removeprefix removesuffix add discard""".split())
DOUBLE = set("""__init__ __eq__ __repr__ __str__ __len__ __enter__ __exit__ __call__ __iter__ __add__ __sub__ __mul__
__radd__ __rsub__ __rmul__ __neg__ __contains__ __getitem__""".split())
BARRED = set("""register mro elements open input law version_info with_traceback add_note attrgetter breakpoint builtins
compile copyright credits delattr dir eval exec exit gc getattr globals hasattr help id importlib license locals
methodcaller os quit setattr type vars sys __name__ __class__""".split())
BARRED_WORDS = re.compile(r"\b(type|typing|typing_extensions|enum|Enum|IntEnum|StrEnum|Flag|IntFlag|Generic|Protocol|ABC"
                          r"|ABCMeta|namedtuple|NamedTuple|TypedDict|TYPE_CHECKING|abstractmethod)\b"
                          r"|dataclass|overload|contextmanager")
STATEMENTS = (ast.FunctionDef, ast.ClassDef, ast.Assign, ast.AugAssign, ast.If, ast.While, ast.For, ast.Return, ast.Break,
              ast.Continue, ast.Pass, ast.Raise, ast.Assert, ast.Delete, ast.With, ast.Try, ast.Expr, ast.ImportFrom)
COMPREHENSIONS = (ast.ListComp, ast.DictComp, ast.SetComp)


def files():
    for name in sorted(os.listdir(FOLDER)):
        if name != "__pycache__":
            with open(os.path.join(FOLDER, name), encoding="utf-8") as held:
                yield name, held.read()


def trees():
    for name, text in files():
        yield name, ast.parse(text)


def nodes(*kinds):
    for name, tree in trees():
        for node in ast.walk(tree):
            if isinstance(node, kinds):
                yield f"{name}:{getattr(node, 'lineno', 0)}", node


def bound_names(tree):
    """All names of parameters, variables, functions, classes and imports in a tree."""
    for node in ast.walk(tree):
        if isinstance(node, ast.Name) and not isinstance(node.ctx, ast.Load):
            yield node.id
        elif isinstance(node, ast.arg):
            yield node.arg
        elif isinstance(node, (ast.FunctionDef, ast.ClassDef)):
            yield node.name
        elif isinstance(node, ast.alias):
            yield node.asname or node.name
        elif isinstance(node, ast.ExceptHandler) and node.name is not None:
            yield node.name


def functions_of(tree):
    return [node for node in ast.walk(tree) if isinstance(node, ast.FunctionDef)]


def plain(node):
    if isinstance(node, (ast.List, ast.Tuple)):
        return all(plain(part) for part in node.elts)
    if isinstance(node, ast.Dict):
        return all(plain(part) for part in node.keys + node.values)
    return isinstance(node, (ast.Constant, ast.Name)) or isinstance(node, ast.UnaryOp) and plain(node.operand)


def names_in(node):
    return [part.id for part in ast.walk(node) if isinstance(part, ast.Name)]


class FilesTest(unittest.TestCase):
    def test_names_sizes_and_characters(self):
        for name, text in files():
            self.assertRegex(name, r"^[a-z_][a-z0-9_]*\.py$")
            self.assertTrue(text.endswith("\n") and set(text) <= set("\n" + "".join(map(chr, range(32, 127)))), name)
            self.assertLessEqual(len(text.splitlines()), 399, name)
            for at, line in enumerate(text.splitlines(), 1):
                self.assertLessEqual(len(line), 120, (name, at))

    def test_sizes_of_functions(self):
        for place, node in nodes(ast.FunctionDef):
            self.assertLessEqual(node.end_lineno - node.lineno + 1, 40, place)

    def test_barred_words(self):
        for name, tree in trees():
            for node in ast.walk(tree):
                if isinstance(node, (ast.FunctionDef, ast.ClassDef, ast.Module)) and ast.get_docstring(node) is not None:
                    node.body = node.body[1:] or [ast.Pass()]
            self.assertIsNone(BARRED_WORDS.search(ast.unparse(tree)), name)

    def test_module_level(self):
        for name, tree in trees():
            body = tree.body[1:] if ast.get_docstring(tree) is not None else tree.body
            for node in body:
                self.assertIsInstance(node, (ast.ImportFrom, ast.FunctionDef, ast.ClassDef, ast.Assign), name)
                if isinstance(node, ast.Assign):
                    self.assertTrue(len(node.targets) == 1 and isinstance(node.targets[0], ast.Name), name)
                    self.assertTrue(plain(node.value), name)
                    functions = {made.name for made in body[:body.index(node)] if isinstance(made, ast.FunctionDef)}
                    self.assertLessEqual(set(names_in(node.value)), functions, name)
            names = [found for node in body if not isinstance(node, ast.Assign) for found in
                     ([alias.name for alias in node.names] if isinstance(node, ast.ImportFrom) else [node.name])]
            self.assertEqual(len(names), len(set(names)), name)


class ImportsTest(unittest.TestCase):
    def imports(self):
        return {name[:-3]: [node for node in tree.body if isinstance(node, ast.ImportFrom)] for name, tree in trees()}

    def test_only_from_the_very_file_that_defines_the_name(self):
        defined = {name[:-3]: {node.name for node in tree.body if isinstance(node, (ast.FunctionDef, ast.ClassDef))}
                   | {node.targets[0].id for node in tree.body if isinstance(node, ast.Assign)} for name, tree in trees()}
        for name, found in self.imports().items():
            for node in found:
                names = {alias.name for alias in node.names}
                self.assertTrue(all(alias.asname is None for alias in node.names) and node.level == 0, name)
                if node.module in LIBRARY:
                    self.assertLessEqual(names, LIBRARY[node.module], name)
                else:
                    package, file = node.module.split(".")
                    self.assertEqual(package, PACKAGE)
                    self.assertLessEqual(names, defined[file], name)

    def test_all_stand_at_the_top_and_are_used(self):
        for name, tree in trees():
            self.assertFalse([node for node in ast.walk(tree) if isinstance(node, ast.Import)], name)
            inner = [node for node in ast.walk(tree) if isinstance(node, ast.ImportFrom)]
            self.assertEqual(len(inner), len(self.imports()[name[:-3]]))
            used = {node.id for node in ast.walk(tree) if isinstance(node, ast.Name)}
            for node in inner:
                self.assertLessEqual({alias.name for alias in node.names}, used, name)

    def test_no_circles(self):
        ahead = {name: {node.module.split(".")[1] for node in found if node.module not in LIBRARY}
                 for name, found in self.imports().items()}
        while ahead:
            free = [name for name, others in ahead.items() if not others & set(ahead)]
            self.assertTrue(free, ahead)
            for name in free:
                del ahead[name]


class NamesTest(unittest.TestCase):
    def test_plain_names(self):
        for name, tree in trees():
            for found in bound_names(tree):
                self.assertTrue(found in DOUBLE or re.match(r"^(_?[A-Za-z][A-Za-z0-9_]*|_)$", found), (name, found))
                self.assertNotIn(found, BARRED, name)

    def test_no_builtin_is_given_another_meaning(self):
        known = set(dir(__builtins__)) if not isinstance(__builtins__, dict) else set(__builtins__)
        for name, tree in trees():
            for found in bound_names(tree):
                self.assertNotIn(found, known - {"_"}, name)

    def test_no_local_name_is_an_import_or_a_class_of_its_file(self):
        for name, tree in trees():
            outer = {alias.name for node in tree.body if isinstance(node, ast.ImportFrom) for alias in node.names}
            outer |= {node.name for node in tree.body if isinstance(node, ast.ClassDef)}
            for function in functions_of(tree):
                for node in ast.walk(function):
                    if isinstance(node, ast.arg):
                        self.assertNotIn(node.arg, outer, name)
                    if isinstance(node, ast.Name) and not isinstance(node.ctx, ast.Load):
                        self.assertNotIn(node.id, outer, name)

    def test_only_known_names_are_read(self):
        for name, tree in trees():
            known = set(bound_names(tree)) | BUILTINS
            for node in ast.walk(tree):
                if isinstance(node, ast.Name):
                    self.assertIn(node.id, known, name)

    def test_methods_are_own_or_listed(self):
        own = {node.name for _, tree in trees() for outer in tree.body if isinstance(outer, ast.ClassDef)
               for node in outer.body if isinstance(node, ast.FunctionDef)}
        for place, node in nodes(ast.Call):
            if isinstance(node.func, ast.Attribute):
                self.assertIn(node.func.attr, own | METHODS, place)
        self.assertLessEqual({method for method in own if method.startswith("__")}, DOUBLE)


class CodeTest(unittest.TestCase):
    def test_statements(self):
        for place, node in nodes(ast.stmt):
            self.assertIsInstance(node, STATEMENTS, place)
        for place, node in nodes(ast.Expr):
            self.assertTrue(isinstance(node.value, ast.Call)
                            or isinstance(node.value, ast.Constant) and isinstance(node.value.value, str), place)

    def test_nothing_that_is_not_allowed(self):
        barred = (ast.GeneratorExp, ast.Yield, ast.YieldFrom, ast.Await, ast.AsyncFor, ast.AsyncWith, ast.Global, ast.Div,
                  ast.MatMult, ast.AnnAssign, ast.AsyncFunctionDef)
        for place, _ in nodes(*barred):
            self.fail(place)
        for place, node in nodes(ast.arg):
            self.assertIsNone(node.annotation, place)

    def test_constants(self):
        for place, node in nodes(ast.Constant):
            self.assertIsInstance(node.value, (int, str, bytes, type(None)), place)
            if isinstance(node.value, str):
                self.assertNotIn("%", node.value, place)
        for place, node in nodes(ast.Pow):
            self.fail(place)

    def test_decorators_and_stars(self):
        for place, node in nodes(ast.FunctionDef):
            for found in node.decorator_list:
                self.assertIn(found.id, {"property", "classmethod", "staticmethod"}, place)
        for place, node in nodes(ast.ClassDef):
            self.assertFalse(node.decorator_list or node.keywords or len(node.bases) > 1, place)
        for place, node in nodes(ast.Call):
            for part in node.args:
                self.assertTrue(not isinstance(part, ast.Starred) or isinstance(part.value, ast.Name), place)

    def test_is_stands_beside_none_true_and_false(self):
        for place, node in nodes(ast.Compare):
            for sign, right in zip(node.ops, node.comparators):
                if isinstance(sign, (ast.Is, ast.IsNot)):
                    self.assertTrue(isinstance(right, ast.Constant) and right.value in (None, True, False), place)

    def test_what_is_iterated_at_once_is_not_kept(self):
        """Calls of zip and the like are iterated on the spot."""
        for name, tree in trees():
            allowed = set()
            for node in ast.walk(tree):
                if isinstance(node, ast.For):
                    allowed.add(id(node.iter))
                elif isinstance(node, COMPREHENSIONS):
                    allowed |= {id(part.iter) for part in node.generators}
                elif isinstance(node, ast.Call) and isinstance(node.func, ast.Name) and node.args:
                    if node.func.id in {"list", "tuple", "dict", "sorted", "sum", "any", "all", "enumerate", "zip"}:
                        allowed.add(id(node.args[0]))
            for node in ast.walk(tree):
                if isinstance(node, ast.Call) and isinstance(node.func, ast.Name):
                    if node.func.id in {"zip", "enumerate", "reversed", "range"}:
                        self.assertIn(id(node), allowed, (name, node.lineno))

    def test_operators_with_a_target_only_count(self):
        for place, node in nodes(ast.AugAssign):
            self.assertTrue(isinstance(node.value, ast.Constant) and isinstance(node.value.value, int), place)

    def test_errors_are_made_on_the_spot_and_none_of_pythons_own_is_caught(self):
        for place, node in nodes(ast.Raise):
            self.assertTrue(node.exc is None or isinstance(node.exc, ast.Call) and isinstance(node.exc.func, ast.Name), place)
        for place, node in nodes(ast.ExceptHandler):
            self.assertIsNotNone(node.type, place)

    def test_a_with_makes_its_object_and_ends_by_plain_assignments(self):
        for place, node in nodes(ast.With):
            for item in node.items:
                self.assertTrue(isinstance(item.context_expr, ast.Call) and isinstance(item.optional_vars, ast.Name), place)
        for place, node in nodes(ast.FunctionDef):
            if node.name == "__exit__":
                for row in node.body:
                    self.assertIsInstance(row, ast.Assign, place)
                    self.assertRegex(ast.unparse(row), r"^[a-z]+(\._[a-z]+)? = self\._[a-z]+$", place)

    def test_tables_are_only_read(self):
        """Lists and dicts at module level are indexed, asked by `in` and `get`, or copied."""
        tables = {node.targets[0].id for _, tree in trees() for node in tree.body
                  if isinstance(node, ast.Assign) and isinstance(node.value, (ast.Dict, ast.List))}
        self.assertGreater(len(tables), 5)
        for name, tree in trees():
            allowed = set()
            for node in ast.walk(tree):
                if isinstance(node, ast.Subscript) and isinstance(node.ctx, ast.Load):
                    allowed.add(id(node.value))
                elif isinstance(node, ast.Compare) and isinstance(node.ops[0], (ast.In, ast.NotIn)):
                    allowed.add(id(node.comparators[0]))
                elif isinstance(node, ast.Attribute) and node.attr == "get":
                    allowed.add(id(node.value))
            for node in ast.walk(tree):
                if isinstance(node, ast.Name) and node.id in tables and isinstance(node.ctx, ast.Load):
                    self.assertIn(id(node), allowed, (name, node.lineno))

    def test_what_is_called_from_a_table_has_a_name_first(self):
        for place, node in nodes(ast.Call):
            self.assertIsInstance(node.func, (ast.Name, ast.Attribute), place)
