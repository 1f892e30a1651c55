"""The rules of LANGUAGE.md that can be seen by a short look at the package's files."""

import ast
import builtins
import pathlib
import unittest

PACKAGE = pathlib.Path(__file__).resolve().parent.parent / "toldamounts"
FILES = {path.stem: path.read_text(encoding="utf-8") for path in sorted(PACKAGE.glob("*.py"))}
TREES = {name: ast.parse(text) for name, text in FILES.items()}

LIBRARY = {"math": {"gcd", "lcm", "isqrt", "comb", "perm", "factorial"}, "itertools": {"product", "combinations", "permutations"}}
BUILT_IN = set(dir(builtins)) - {"_"}
BUILTINS = """len range enumerate zip min max sum abs sorted reversed int str bool list tuple dict set isinstance ord repr any all
divmod Exception ValueError KeyError IndexError""".split()
METHODS = """append clear copy count endswith extend find get index insert isalnum isalpha isdigit islower isspace isupper items join
keys ljust lower lstrip partition pop remove replace reverse rfind rjust rpartition rsplit rstrip setdefault split splitlines
startswith strip update upper values zfill bit_length removeprefix removesuffix isascii isdecimal""".split()
UNUSED = """register mro elements open input law version_info with_traceback add_note attrgetter breakpoint builtins compile copyright
credits delattr dir eval exec exit gc getattr globals hasattr help id importlib license locals methodcaller os quit setattr super
type vars sys typing enum Enum Flag Generic Protocol ABC namedtuple dataclass overload contextmanager""".split()
STATEMENTS = (
    ast.Assign, ast.AugAssign, ast.If, ast.While, ast.For, ast.Return, ast.Break, ast.Continue, ast.Pass, ast.Raise, ast.Assert,
    ast.Try, ast.ExceptHandler, ast.Expr, ast.FunctionDef, ast.ClassDef, ast.ImportFrom,
)
ITERATED_AT_ONCE = {"zip", "enumerate", "reversed", "range", "items", "keys", "values"}
TAKERS = {"list", "tuple", "dict", "sorted", "sum", "any", "all", "enumerate", "zip", "min", "max", "len"}


# The methods of the package's own classes; none has the name of a method of a builtin value.
OWN_METHODS = {method.name for tree in TREES.values() for node in tree.body if isinstance(node, ast.ClassDef)
               for method in node.body if isinstance(method, ast.FunctionDef)}


def defined(tree):
    """The names of the functions and classes that a file defines."""
    return [node.name for node in tree.body if isinstance(node, (ast.FunctionDef, ast.ClassDef))]


def imported(tree):
    """The names that a file imports."""
    return [alias.name for node in tree.body if isinstance(node, ast.ImportFrom) for alias in node.names]


def parents_of(tree):
    """Each node's parent."""
    return {child: node for node in ast.walk(tree) for child in ast.iter_child_nodes(node)}


def called_name(node):
    """The name of what a call calls."""
    if not isinstance(node, ast.Call):
        return None
    return node.func.id if isinstance(node.func, ast.Name) else node.func.attr


def bound_names(tree):
    """All names that are assigned, passed or defined anywhere in a file."""
    for node in ast.walk(tree):
        if isinstance(node, ast.Name) and not isinstance(node.ctx, ast.Load):
            yield node.id
        elif isinstance(node, ast.arg):
            yield node.arg
        elif isinstance(node, (ast.FunctionDef, ast.ClassDef)):
            yield node.name


class TestLanguage(unittest.TestCase):

    def test_files_lines_and_signs(self):
        self.assertEqual([path.name for path in PACKAGE.iterdir() if path.suffix != ".py" and path.name != "__pycache__"], [])
        for name, text in FILES.items():
            self.assertEqual(name, name.lower())
            self.assertTrue(all(sign == "\n" or " " <= sign <= "~" for sign in text), name)
            self.assertLessEqual(len(text.split("\n")), 399, name)
            self.assertLessEqual(max(len(line) for line in text.split("\n")), 120, name)

    def test_functions_are_short(self):
        for name, tree in TREES.items():
            for node in ast.walk(tree):
                if isinstance(node, ast.FunctionDef):
                    self.assertLessEqual(node.end_lineno - node.lineno + 1, 40, (name, node.name))
                    self.assertEqual(node.decorator_list, [])

    def test_module_level(self):
        for name, tree in TREES.items():
            kinds = (ast.ImportFrom, ast.FunctionDef, ast.ClassDef, ast.Assign)
            for node in tree.body[1:]:
                self.assertIsInstance(node, kinds, name)
                if isinstance(node, ast.Assign):
                    self.assertEqual(len(node.targets), 1)
                    self.assertIsInstance(node.targets[0], ast.Name)
                    ast.literal_eval(node.value)
            self.assertIsNotNone(ast.get_docstring(tree), name)

    def test_imports(self):
        for name, tree in TREES.items():
            names = imported(tree)
            self.assertEqual(len(set(names + defined(tree))), len(names + defined(tree)), name)
            for node in tree.body:
                if isinstance(node, ast.ImportFrom):
                    self.assertEqual(node.level, 0)
                    taken = {alias.name for alias in node.names}
                    self.assertTrue(all(alias.asname is None for alias in node.names))
                    if node.module.startswith("toldamounts."):
                        owner = TREES[node.module.split(".")[1]]
                        constants = [each.targets[0].id for each in owner.body if isinstance(each, ast.Assign)]
                        self.assertLessEqual(taken, set(defined(owner) + constants), name)
                    else:
                        self.assertLessEqual(taken, LIBRARY[node.module], name)

    def test_what_is_imported_is_used_and_no_variable_is_called_so(self):
        for name, tree in TREES.items():
            barred = set(imported(tree)) | {node.name for node in tree.body if isinstance(node, ast.ClassDef)}
            read = {node.id for node in ast.walk(tree) if isinstance(node, ast.Name)}
            self.assertLessEqual(set(imported(tree)), read, name)
            locally = [bound for node in tree.body if isinstance(node, ast.FunctionDef) for bound in bound_names(node)]
            self.assertEqual(barred & set(locally), set(), name)

    def test_library_functions_are_only_called(self):
        for name, tree in TREES.items():
            parents = parents_of(tree)
            for node in ast.walk(tree):
                if isinstance(node, ast.Name) and any(node.id in words for words in LIBRARY.values()):
                    self.assertTrue(isinstance(parents[node], ast.Call) and parents[node].func is node, name)

    def test_no_two_files_import_each_other(self):
        edges = {name: {node.module.split(".")[1] for node in tree.body
                        if isinstance(node, ast.ImportFrom) and node.module.startswith("toldamounts.")} for name, tree in TREES.items()}
        left = dict(edges)
        while left:
            free = [name for name, needs in left.items() if not needs & set(left)]
            self.assertTrue(free, sorted(left))
            left = {name: needs for name, needs in left.items() if name not in free}

    def test_names(self):
        for name, tree in TREES.items():
            for bound in bound_names(tree):
                self.assertTrue(bound == "__init__" or bound not in BUILT_IN, (name, bound))
                self.assertNotIn(bound, UNUSED, name)
                self.assertTrue(bound == "__init__" or not bound.startswith("__"), (name, bound))

    def test_builtins_and_methods(self):
        for name, tree in TREES.items():
            for node in ast.walk(tree):
                if isinstance(node, ast.Name) and node.id in BUILT_IN:
                    self.assertIn(node.id, BUILTINS, name)
                if isinstance(node, ast.Call) and isinstance(node.func, ast.Attribute):
                    self.assertIn(node.func.attr, METHODS + sorted(OWN_METHODS), name)

    def test_own_methods_and_attributes(self):
        of_builtins = {word for kind in (str, int, list, dict, set, bytes, tuple) for word in dir(kind)} - {"__init__"}
        self.assertEqual(OWN_METHODS & of_builtins, set())
        for name, tree in TREES.items():
            for node in ast.walk(tree):
                if isinstance(node, ast.Attribute) and isinstance(node.ctx, ast.Store):
                    self.assertNotIn(node.attr, OWN_METHODS | of_builtins, name)
                    self.assertIsInstance(node.value, ast.Name)

    def test_statements_and_values(self):
        for name, tree in TREES.items():
            for node in ast.walk(tree):
                if isinstance(node, ast.stmt):
                    self.assertIsInstance(node, STATEMENTS, (name, node.lineno))
                self.assertNotIsInstance(node, (ast.Div, ast.Await, ast.NamedExpr), name)
                if isinstance(node, ast.Constant):
                    self.assertNotIsInstance(node.value, (float, complex), name)
                    if isinstance(node.value, str):
                        self.assertNotIn("%", node.value, name)
                if isinstance(node, ast.BinOp) and isinstance(node.op, ast.Pow):
                    self.assertIsInstance(node.right, ast.Constant, name)
                if isinstance(node, ast.Compare) and any(isinstance(op, (ast.Is, ast.IsNot)) for op in node.ops):
                    self.assertTrue(all(isinstance(other, ast.Constant) for other in node.comparators), name)

    def test_sets_stand_in_sorted_or_len(self):
        for name, tree in TREES.items():
            parents = parents_of(tree)
            for node in ast.walk(tree):
                if isinstance(node, (ast.Set, ast.SetComp)) or called_name(node) == "set":
                    self.assertIn(called_name(parents[node]), ("sorted", "len"), (name, node.lineno))

    def test_ranges_and_the_like_are_iterated_at_once(self):
        for name, tree in TREES.items():
            parents = parents_of(tree)
            for node in ast.walk(tree):
                if called_name(node) in ITERATED_AT_ONCE:
                    above = parents[node]
                    iterated = isinstance(above, (ast.For, ast.comprehension)) and above.iter is node
                    taken = called_name(above) in TAKERS and above.args[0] is node
                    self.assertTrue(iterated or taken, (name, node.lineno))

    def test_generator_expressions_do_not_stand_anywhere(self):
        for name, tree in TREES.items():
            for node in ast.walk(tree):
                self.assertNotIsInstance(node, (ast.GeneratorExp, ast.Yield, ast.Lambda), name)


if __name__ == "__main__":
    unittest.main()
