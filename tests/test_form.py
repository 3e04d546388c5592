"""The rules on form that a look at the code can tell: sizes, names, imports, calls."""

import ast
import builtins
import functools
import pathlib
import re
import unittest

PACKAGE = pathlib.Path(__file__).resolve().parent.parent / "onlylooks"

BUILTINS = set(
    "len range enumerate zip min max sum abs sorted reversed int str bool bytes list tuple dict set "
    "frozenset isinstance ord repr any all divmod map iter next Exception ValueError TypeError "
    "KeyError IndexError LookupError ZeroDivisionError ArithmeticError OverflowError RuntimeError "
    "NotImplementedError AttributeError StopIteration NotImplemented property staticmethod "
    "classmethod super".split())
PYTHONS = {name for name in vars(builtins) if not name.startswith("_")}
METHODS = set(
    "append clear copy count endswith extend find get index insert isalnum isalpha isdigit islower "
    "isspace isupper items join keys ljust lower lstrip partition pop remove replace reverse rfind "
    "rjust rpartition rsplit rstrip setdefault split splitlines startswith strip update upper values "
    "zfill bit_length encode decode add discard".split())
SPECIAL = set(
    "__init__ __eq__ __repr__ __str__ __len__ __enter__ __exit__ __call__ __iter__ __lt__ __le__ "
    "__gt__ __ge__ __ne__ __add__ __sub__ __mul__ __floordiv__ __mod__ __pow__ __and__ __or__ "
    "__xor__ __lshift__ __rshift__ __iadd__ __isub__ __ior__ __iand__ __neg__ __pos__ __invert__ "
    "__abs__ __bool__ __contains__ __getitem__ __setitem__".split())
BARRED = set(
    "register mro elements open input law version_info with_traceback add_note attrgetter "
    "breakpoint builtins compile copyright credits delattr dir eval exec exit gc getattr globals "
    "hasattr help id importlib license locals methodcaller os quit setattr type vars".split())
CHANGING = set(
    "append clear extend insert pop remove reverse setdefault update sort add discard put take".split())
STATEMENTS = (
    ast.Assign, ast.AugAssign, ast.If, ast.While, ast.For, ast.Return, ast.Break, ast.Continue,
    ast.Pass, ast.Raise, ast.Assert, ast.Delete, ast.Nonlocal, ast.With, ast.Try, ast.Expr,
    ast.FunctionDef, ast.ClassDef, ast.ImportFrom)


def files():
    return sorted(PACKAGE.glob("*.py"))


@functools.cache
def trees():
    return [(path.name, ast.parse(path.read_text())) for path in files()]


def nodes(*kinds):
    """The tuples (file and line, node) of all nodes of some kinds."""
    return [(f"{name}:{node.lineno}", node) for name, tree in trees()
            for node in ast.walk(tree) if isinstance(node, kinds)]


def own_names():
    """The names of all functions, methods and classes of the package."""
    return {node.name for _, node in nodes(ast.FunctionDef, ast.ClassDef)}


def is_property(node):
    return "property" in [ast.unparse(each) for each in node.decorator_list]


@functools.cache
def methods_by_name():
    """A dict from the names of methods to the tuples (file, class, method)."""
    found = {}
    for name, tree in trees():
        for kind in [each for each in tree.body if isinstance(each, ast.ClassDef)]:
            for each in [each for each in kind.body if isinstance(each, ast.FunctionDef)]:
                found.setdefault(each.name, []).append((name, kind.name, each))
    return found


@functools.cache
def functions():
    """A dict from the tuples (file, name) to the functions of all modules."""
    return {(name, each.name): each for name, tree in trees() for each in tree.body
            if isinstance(each, ast.FunctionDef)}


def bound_in(name):
    """A dict from the names that a file binds to the tuples (file, name) of where they are defined."""
    tree = dict(trees())[name]
    found = {each.name: (name, each.name) for each in tree.body if hasattr(each, "name")}
    for each in [each for each in tree.body if isinstance(each, ast.ImportFrom)]:
        found.update({alias.name: (each.module.split(".")[1] + ".py", alias.name) for alias in each.names})
    return found


def named_by(name, node):
    """The tuples (file, function) that a function may call: those whose names stand in it."""
    bound, found = bound_in(name), []
    for each in ast.walk(node):
        if isinstance(each, ast.Name) and each.id in bound:
            place = bound[each.id]
            if place in functions():
                found.append((place[0], functions()[place]))
            found += [(file, made) for file, kind, made in methods_by_name()["__init__"] if (file, kind) == place]
        if isinstance(each, ast.Attribute):
            found += [(file, told) for file, _, told in methods_by_name().get(each.attr, [])]
    return found


@functools.cache
def quiet():
    """The tuples (file, function) of all operators and properties, and of what they may call."""
    loud = ("__init__", "__call__", "__enter__", "__exit__")
    waiting = [(file, each) for those in methods_by_name().values() for file, _, each in those
               if is_property(each) or (each.name.startswith("__") and each.name not in loud)]
    found = []
    while waiting:
        file, node = waiting.pop()
        if not any(node is each for _, each in found):
            found.append((file, node))
            waiting += named_by(file, node)
    return found


def held_names():
    """The names of all attributes and properties of the package."""
    stored = {node.attr for _, node in nodes(ast.Attribute) if isinstance(node.ctx, ast.Store)}
    return stored | {node.name for _, node in nodes(ast.FunctionDef) if is_property(node)}


def local_names(node):
    """The names of the parameters and variables of a function."""
    return ({each.arg for each in ast.walk(node) if isinstance(each, ast.arg)}
            | {each.id for each in ast.walk(node) if isinstance(each, ast.Name) and isinstance(each.ctx, ast.Store)})


def own_lists(node):
    """The names of the variables of a function that are made by list literals or comprehensions."""
    return {target.id for each in ast.walk(node) if isinstance(each, ast.Assign)
            for target in each.targets if isinstance(target, ast.Name)
            and isinstance(each.value, (ast.List, ast.ListComp))}


class FormTest(unittest.TestCase):
    def test_the_folder_has_plain_files_alone(self):
        for path in PACKAGE.iterdir():
            if path.name != "__pycache__":
                self.assertRegex(path.name, r"\A[a-z0-9_]+\.py\Z")

    def test_sizes_and_characters(self):
        for path in files():
            lines = path.read_text().split("\n")
            self.assertLessEqual(len(lines), 400, path.name)
            for number, line in enumerate(lines, 1):
                self.assertLessEqual(len(line), 120, (path.name, number))
                self.assertTrue(all(" " <= sign <= "~" for sign in line), (path.name, number))
                self.assertIsNone(re.search(r"_wall|_WallAttr|\(type\)|Meta", line), (path.name, number))
        for where, node in nodes(ast.FunctionDef):
            self.assertLessEqual(node.end_lineno - node.lineno + 1, 40, where)

    def test_module_level(self):
        for name, tree in trees():
            for node in tree.body:
                is_doc = isinstance(node, ast.Expr) and isinstance(node.value, ast.Constant)
                kinds = (ast.ImportFrom, ast.FunctionDef, ast.ClassDef, ast.Assign)
                self.assertTrue(is_doc or isinstance(node, kinds), (name, node.lineno))

    def test_imports_name_the_file_that_defines(self):
        for where, node in nodes(ast.Import, ast.ImportFrom):
            self.assertIsInstance(node, ast.ImportFrom, where)
            self.assertEqual((node.level, node.module.split(".")[0]), (0, "onlylooks"), where)
            tree = dict(trees())[node.module.split(".")[1] + ".py"]
            bound = {each.name for each in tree.body if hasattr(each, "name")}
            bound |= {each.targets[0].id for each in tree.body if isinstance(each, ast.Assign)}
            for alias in node.names:
                self.assertIn(alias.name, bound, where)
                self.assertIsNone(alias.asname, where)

    def test_imports_are_used(self):
        for name, tree in trees():
            used = {node.id for node in ast.walk(tree) if isinstance(node, ast.Name)}
            for node in ast.walk(tree):
                if isinstance(node, ast.ImportFrom):
                    self.assertLessEqual({alias.name for alias in node.names}, used, name)

    def test_names(self):
        bound = [(where, node.name) for where, node in nodes(ast.FunctionDef, ast.ClassDef)]
        bound += [(where, node.arg) for where, node in nodes(ast.arg)]
        bound += [(where, node.id) for where, node in nodes(ast.Name) if isinstance(node.ctx, ast.Store)]
        for where, name in bound:
            self.assertNotIn(name, BARRED, where)
            self.assertNotIn(name, PYTHONS, where)
            if name.startswith("__"):
                self.assertIn(name, SPECIAL, where)

    def test_no_local_name_of_a_class_or_an_import(self):
        for name, tree in trees():
            taken = {node.name for node in ast.walk(tree) if isinstance(node, ast.ClassDef)}
            taken |= {alias.name for node in tree.body if isinstance(node, ast.ImportFrom)
                      for alias in node.names}
            for node in ast.walk(tree):
                if isinstance(node, ast.arg):
                    self.assertNotIn(node.arg, taken, (name, node.lineno))
                if isinstance(node, ast.Name) and isinstance(node.ctx, ast.Store):
                    self.assertNotIn(node.id, taken, (name, node.lineno))

    def test_builtins(self):
        for where, node in nodes(ast.Name):
            if node.id in PYTHONS:
                self.assertIn(node.id, BUILTINS, where)

    def test_methods(self):
        for where, node in nodes(ast.Call):
            if isinstance(node.func, ast.Attribute):
                self.assertIn(node.func.attr, METHODS | own_names(), where)

    def test_statements(self):
        for where, node in nodes(ast.stmt):
            self.assertIsInstance(node, STATEMENTS, where)
        for where, node in nodes(ast.FunctionDef, ast.ClassDef):
            for each in node.decorator_list:
                self.assertIn(ast.unparse(each), ["property", "staticmethod", "classmethod"], where)

    def test_properties_are_not_assigned_and_no_methods(self):
        methods = [each for _, each in nodes(ast.FunctionDef) if each.args.args and each.args.args[0].arg == "self"]
        told = {each.name for each in methods if each.decorator_list}
        plain = {each.name for each in methods if not each.decorator_list}
        self.assertFalse(told & plain)
        for where, node in nodes(ast.Attribute):
            if isinstance(node.ctx, ast.Store):
                self.assertNotIn(node.attr, told | plain, where)

    def test_truth_over_lists(self):
        for where, node in nodes(ast.Call):
            if isinstance(node.func, ast.Name) and node.func.id in ("any", "all", "sum", "sorted"):
                self.assertNotIsInstance(node.args[0], ast.GeneratorExp, where)

    def test_reversed(self):
        """Where a class has items of its own, only lists that are plainly lists are reversed."""
        for where, node in nodes(ast.Call):
            if isinstance(node.func, ast.Name) and node.func.id == "reversed":
                made = node.args[0]
                self.assertIsInstance(made, ast.Call, where)
                self.assertIn(made.func.id, ("list", "tuple", "sorted", "range"), where)

    def test_stars_in_calls(self):
        simple = (ast.Name, ast.Attribute, ast.Constant, ast.List, ast.Tuple)
        for where, node in nodes(ast.Call):
            behind = False
            for each in node.args:
                behind = behind or isinstance(each, ast.Starred)
                if behind:
                    self.assertIsInstance(each.value if isinstance(each, ast.Starred) else each, simple, where)

    def test_remainders(self):
        """Where bytes are made, what stands ahead of the sign is plainly a number, not a text."""
        for where, node in nodes(ast.BinOp, ast.AugAssign):
            if isinstance(node.op, ast.Mod):
                self.assertIsInstance(node, ast.BinOp, where)
                left = node.left
                is_call = isinstance(left, ast.Call) and isinstance(left.func, ast.Name) and left.func.id in ("int", "len")
                is_number = isinstance(left, ast.Constant) and isinstance(left.value, int)
                self.assertTrue(is_call or is_number, where)

    def test_is(self):
        for where, node in nodes(ast.Compare):
            for sign, other in zip(node.ops, node.comparators):
                if isinstance(sign, (ast.Is, ast.IsNot)):
                    self.assertIsInstance(other, ast.Constant, where)
                    self.assertIn(other.value, (None, True, False), where)

    def test_words_that_do_not_occur(self):
        barred = re.compile(r"\b(type|typing|enum|Enum|Generic|Protocol|ABC|namedtuple|abstractmethod)\b|dataclass|overload|contextmanager")
        for where, node in nodes(ast.Name, ast.Attribute, ast.Constant, ast.arg):
            text = getattr(node, "id", None) or getattr(node, "attr", None) or getattr(node, "arg", None) or getattr(node, "value", "")
            if isinstance(text, str) and "\n" not in text and " " not in text:
                self.assertIsNone(barred.search(text), where)

    def test_names_are_bound_once(self):
        for name, tree in trees():
            bound = [each.name for each in tree.body if hasattr(each, "name")]
            bound += [alias.name for each in tree.body if isinstance(each, ast.ImportFrom) for alias in each.names]
            bound += [target.id for each in tree.body if isinstance(each, ast.Assign) for target in each.targets]
            self.assertEqual(sorted(bound), sorted(set(bound)), name)

    def test_no_circle_of_imports(self):
        asked = {name[:-3]: {node.module.split(".")[1] for node in ast.walk(tree) if isinstance(node, ast.ImportFrom)} for name, tree in trees()}
        left = dict(asked)
        while left:
            free = [name for name in left if not left[name] & set(left)]
            self.assertTrue(free, left)
            for name in free:
                del left[name]

    def test_constants(self):
        for where, node in nodes(ast.Constant):
            self.assertNotIsInstance(node.value, float, where)
            if isinstance(node.value, str):
                self.assertNotIn("%", node.value, where)

    def test_errors_are_created_on_the_spot(self):
        for where, node in nodes(ast.Raise):
            if node.exc is not None:
                self.assertIsInstance(node.exc, ast.Call, where)
                self.assertIsInstance(node.exc.func, ast.Name, where)

    def test_operators_and_properties_call_nothing_that_is_held(self):
        """A call of a name that is also an attribute reads as a call of what an object holds."""
        held = held_names()
        for file, node in quiet():
            passed = local_names(node)
            for each in [each for each in ast.walk(node) if isinstance(each, ast.Call)]:
                where = (file, each.lineno)
                self.assertIsInstance(each.func, (ast.Name, ast.Attribute), where)
                if isinstance(each.func, ast.Attribute):
                    self.assertNotIn(each.func.attr, held, where)
                else:
                    self.assertNotIn(each.func.id, held | passed, where)

    def test_operators_and_properties_change_nothing(self):
        for file, node in quiet():
            lists = own_lists(node)
            for each in ast.walk(node):
                where = (file, node.name, getattr(each, "lineno", None))
                if isinstance(each, ast.Call) and isinstance(each.func, ast.Attribute) and each.func.attr in CHANGING:
                    self.assertIsInstance(each.func.value, ast.Name, where)
                    self.assertIn(each.func.value.id, lists, where)
                if isinstance(each, ast.AugAssign):
                    self.assertIsInstance(each.value, ast.Constant, where)
                # These make an object, or are there to change it.
                if node.name not in ("__init__", "__setitem__", "__ior__"):
                    if isinstance(each, (ast.Attribute, ast.Subscript)):
                        self.assertIsInstance(each.ctx, ast.Load, where)

    def test_what_operators_and_properties_call_is_found(self):
        found = {(file, node.name) for file, node in quiet()}
        for each in [("tables.py", "__getitem__"), ("possible.py", "word_of"), ("values.py", "order_key"),
                     ("rules.py", "leads_back"), ("databases.py", "copied"), ("facts.py", "is_row_of")]:
            self.assertIn(each, found)
        self.assertNotIn(("searches.py", "end"), found)

    def test_len_and_items(self):
        for where, node in nodes(ast.ClassDef):
            methods = {each.name: each for each in node.body if isinstance(each, ast.FunctionDef)}
            if "__getitem__" in methods:
                self.assertIn("__iter__", methods, where)
            if "__len__" in methods:
                self.assertTrue(ast.unparse(methods["__len__"].body[-1]).startswith("return len("), where)
