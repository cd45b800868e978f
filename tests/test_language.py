"""Holds the package's files to the rules of LANGUAGE.md that can be seen in the text."""
import ast
import builtins
import pathlib
import re
import unittest

PACKAGE = pathlib.Path(__file__).resolve().parent.parent / "evenwebs"

BUILT_IN = set(
    "len range enumerate zip min max sum abs sorted reversed int str bool list tuple dict set frozenset "
    "isinstance ord repr any all divmod Exception ValueError TypeError KeyError IndexError LookupError "
    "ZeroDivisionError ArithmeticError OverflowError RuntimeError NotImplementedError AttributeError "
    "StopIteration".split()
)
METHODS = set(
    "append clear copy count endswith extend find get index insert isalnum isalpha isdigit islower isspace "
    "isupper items join keys ljust lower lstrip partition pop remove replace reverse rfind rjust rpartition "
    "rsplit rstrip setdefault split splitlines startswith strip update upper values zfill bit_length".split()
)
VALUES = set("count index title find get join lower upper split strip copy add".split())
KEYWORDS = {
    "sorted": {"key", "reverse"}, "min": {"key", "default"}, "max": {"key", "default"},
    "sum": {"start"}, "enumerate": {"start"}, "zip": {"strict"},
}
WALKED = {"zip", "enumerate", "reversed", "range", "items", "keys", "values"}
WALKERS = {"list", "tuple", "dict", "sorted", "sum", "any", "all", "enumerate", "zip", "min", "max", "join"}
SPECIAL = {"__init__", "__eq__", "__repr__", "__str__", "__len__"}
NOT_NAMES = set(
    "register mro elements open input version_info with_traceback add_note attrgetter breakpoint builtins "
    "compile copyright credits delattr dir eval exec exit gc getattr globals hasattr help id importlib "
    "license locals methodcaller os quit setattr super type vars sys __name__ chr print".split()
)
NOT_WORDS = set(
    "type typing typing_extensions enum Enum IntEnum StrEnum Flag IntFlag Generic Protocol ABC ABCMeta "
    "namedtuple NamedTuple TypedDict TYPE_CHECKING abstractmethod".split()
)
NODES = (
    "Module Import ImportFrom alias FunctionDef ClassDef arguments arg Lambda Return Assign AugAssign For While If "
    "Raise Try ExceptHandler Expr Pass Break Continue BoolOp And Or BinOp Add Sub Mult FloorDiv Mod Pow LShift "
    "RShift BitOr BitXor BitAnd UnaryOp Invert Not UAdd USub IfExp Dict Set ListComp comprehension Compare Eq "
    "NotEq Lt LtE Gt GtE Is IsNot In NotIn Call keyword JoinedStr FormattedValue Constant Attribute Subscript "
    "Slice Name List Tuple Load Store"
).split()


def files():
    return sorted(path for path in PACKAGE.rglob("*") if path.is_file() and "__pycache__" not in path.parts)


def trees():
    return [(path.name, ast.parse(path.read_text(encoding="ascii"))) for path in files()]


def nodes_of(*kinds):
    return [(name, node) for name, tree in trees() for node in ast.walk(tree) if isinstance(node, kinds)]


def bound_within(function):
    """The parameters and locals of a function, those of what stands within it among them."""
    names = [node.arg for node in ast.walk(function) if isinstance(node, ast.arg)]
    for node in ast.walk(function):
        if isinstance(node, ast.Name) and isinstance(node.ctx, ast.Store):
            names.append(node.id)
        if isinstance(node, ast.ExceptHandler) and node.name:
            names.append(node.name)
    return names


def top_names(tree):
    names = []
    for node in tree.body:
        if isinstance(node, (ast.FunctionDef, ast.ClassDef)):
            names.append(node.name)
        elif isinstance(node, ast.Assign):
            names.append(node.targets[0].id)
        elif isinstance(node, ast.ImportFrom):
            names.extend(alias.asname or alias.name for alias in node.names)
    return names


def called_name(node):
    """The name by which something is called, a method's among them; None of anything else."""
    if not isinstance(node, ast.Call):
        return None
    return node.func.attr if isinstance(node.func, ast.Attribute) else getattr(node.func, "id", None)


def nodes_with_parents():
    """Each node with the one that it stands in and the one above that."""
    told = []
    for name, tree in trees():
        above = {}
        for node in ast.walk(tree):
            for part in ast.iter_child_nodes(node):
                above[part] = node
                told.append((name, part, node, above.get(node)))
    return told


def drawn_from(tree):
    return [node.module for node in tree.body if isinstance(node, ast.ImportFrom)]


class Language(unittest.TestCase):
    def test_files(self):
        self.assertIn("__init__.py", [path.name for path in files()])
        for path in files():
            text = path.read_bytes().decode("ascii")
            self.assertEqual(path.parent, PACKAGE)
            self.assertRegex(path.name, r"\A(__init__|__main__|[a-z][a-z0-9_]*)\.py\Z")
            self.assertFalse(path.name.startswith("test"), path.name)
            self.assertNotIn(path.stem, dir(builtins))
            self.assertRegex(text, r"\A[ -~\n]*\Z", path.name)

    def test_sizes(self):
        for path in files():
            lines = path.read_text(encoding="ascii").split("\n")
            self.assertLessEqual(len(lines), 400, path.name)
            self.assertLessEqual(max(len(line) for line in lines), 120, path.name)
        for name, node in nodes_of(ast.FunctionDef):
            self.assertLessEqual(node.end_lineno - node.lineno + 1, 40, (name, node.name))

    def test_words(self):
        for path in files():
            text = path.read_text(encoding="ascii")
            self.assertEqual(sorted(set(re.findall(r"\w+", text)) & NOT_WORDS), [], path.name)
            self.assertIsNone(re.search("dataclass|overload|contextmanager", text), path.name)

    def test_nodes(self):
        for name, node in nodes_of(ast.AST):
            self.assertIn(node.__class__.__name__, NODES, (name, getattr(node, "lineno", 0)))

    def test_the_top_of_a_file(self):
        for name, tree in trees():
            self.assertIsNotNone(ast.get_docstring(tree), name)
            for node in tree.body[1:]:
                self.assertIsInstance(node, (ast.ImportFrom, ast.FunctionDef, ast.ClassDef, ast.Assign), name)
            names = top_names(tree)
            self.assertEqual(len(names), len(set(names)), name)
        self.assertEqual(len(trees()[0][1].body), 1)

    def test_statements_by_themselves_are_calls(self):
        for name, tree in trees():
            for node in ast.walk(tree):
                if isinstance(node, ast.Expr) and node is not tree.body[0]:
                    self.assertIsInstance(node.value, ast.Call, (name, node.lineno))

    def test_imports(self):
        defined = {"evenwebs." + name[:-3]: tree for name, tree in trees()}
        for name, node in nodes_of(ast.Import, ast.ImportFrom):
            self.assertIsInstance(node, ast.ImportFrom, name)
            self.assertEqual(node.level, 0, name)
            own = [part.name for part in defined[node.module].body if hasattr(part, "name")]
            own += [part.targets[0].id for part in defined[node.module].body if isinstance(part, ast.Assign)]
            for alias in node.names:
                self.assertIn(alias.name, own, name)
        for module in defined:
            self.assertNotIn(module, self.reached(defined, module))

    def reached(self, defined, module):
        found = []
        waiting = drawn_from(defined[module])
        while waiting:
            drawn = waiting.pop()
            if drawn not in found:
                found.append(drawn)
                waiting.extend(drawn_from(defined[drawn]))
        return found

    def test_functions(self):
        for name, node in nodes_of(ast.FunctionDef, ast.Lambda):
            taken = node.args
            self.assertFalse(taken.vararg or taken.kwarg or taken.kwonlyargs or taken.posonlyargs, name)
            self.assertEqual(getattr(node, "decorator_list", []), [], name)

    def test_names(self):
        defined = {node.name for name, node in nodes_of(ast.FunctionDef, ast.ClassDef)}
        self.assertEqual(sorted(each for each in defined if each.startswith("_") and each not in SPECIAL), [])
        for name, tree in trees():
            known = set(top_names(tree)) | BUILT_IN
            for node in tree.body:
                inner = set(bound_within(node))
                imported = {each for each in top_names(ast.Module([
                    part for part in tree.body if isinstance(part, (ast.ImportFrom, ast.ClassDef))], []))}
                if not isinstance(node, ast.Assign):
                    self.assertEqual(sorted(inner & (imported | set(dir(builtins)))), [], name)
                self.assertEqual(sorted(each for each in inner if each.startswith("_")), [], name)
                read = {part.id for part in ast.walk(node) if isinstance(part, ast.Name)}
                within = {part.name for part in ast.walk(node) if isinstance(part, ast.FunctionDef)}
                self.assertEqual(sorted(read - known - inner - within), [], name)
                self.assertEqual(sorted((read | inner) & NOT_NAMES), [], name)

    def test_methods(self):
        own = {node.name for name, node in nodes_of(ast.FunctionDef)}
        own |= {node.attr for name, node in nodes_of(ast.Attribute) if isinstance(node.ctx, ast.Store)}
        for name, node in nodes_of(ast.Attribute):
            self.assertIn(node.attr, own | METHODS | {"__init__"}, (name, node.lineno))
            self.assertNotIn(node.attr, NOT_NAMES, (name, node.lineno))

    def test_classes(self):
        for name, node in nodes_of(ast.ClassDef):
            self.assertLessEqual(len(node.bases), 1, node.name)
            self.assertEqual(node.decorator_list + node.keywords, [], node.name)
            for part in node.body:
                self.assertIsInstance(part, (ast.FunctionDef, ast.Pass), node.name)

    def test_own_methods_and_values(self):
        methods = set()
        for name, node in nodes_of(ast.ClassDef):
            own = [part.name for part in node.body if isinstance(part, ast.FunctionDef)]
            self.assertEqual(len(own), len(set(own)), node.name)
            methods |= set(own)
        values = {node.attr for name, node in nodes_of(ast.Attribute) if isinstance(node.ctx, ast.Store)}
        self.assertEqual(sorted(methods & values), [])
        pythons = {each for kind in (str, int, list, dict, set, bytes) for each in dir(kind)}
        self.assertEqual(sorted(methods & pythons - METHODS - {"add", "discard", "__init__"}), [])
        self.assertEqual(sorted(values & pythons - VALUES), [])
        for name, node in nodes_of(ast.Attribute):
            if isinstance(node.ctx, ast.Store):
                self.assertIsInstance(node.value, ast.Name, (name, node.lineno))

    def test_own_methods_are_called_where_they_stand(self):
        values = {node.attr for name, node in nodes_of(ast.Attribute) if isinstance(node.ctx, ast.Store)}
        for name, node, parent, above in nodes_with_parents():
            if isinstance(node, ast.Attribute) and node.attr not in values:
                self.assertTrue(isinstance(parent, ast.Call) and parent.func is node, (name, node.lineno))

    def test_errors_are_raised_and_taken_by_name(self):
        errors = {node.name for name, node in nodes_of(ast.ClassDef) if name == "errors.py"}
        for name, node in nodes_of(ast.Raise):
            self.assertIn(called_name(node.exc), errors, (name, node.lineno))
            self.assertIsNone(node.cause, (name, node.lineno))
        for name, node in nodes_of(ast.ExceptHandler):
            self.assertIn(getattr(node.type, "id", None), errors, (name, node.lineno))

    def test_classes_are_not_handed_on(self):
        classes = {node.name for name, node in nodes_of(ast.ClassDef)}
        for name, node, parent, above in nodes_with_parents():
            if isinstance(node, ast.Name) and node.id in classes:
                called = isinstance(parent, ast.Call) and parent.func is node
                self.assertTrue(called or isinstance(parent, (ast.ClassDef, ast.ExceptHandler)), (name, node.lineno))

    def test_what_stands_at_the_top_is_only_read(self):
        for name, tree in trees():
            kept = {
                node.targets[0].id for node in tree.body
                if isinstance(node, ast.Assign) and isinstance(node.value, (ast.Dict, ast.List))}
            for other, node, parent, above in nodes_with_parents():
                if other == name and isinstance(node, ast.Name) and node.id in kept and isinstance(node.ctx, ast.Load):
                    indexed = isinstance(parent, ast.Subscript) and isinstance(parent.ctx, ast.Load)
                    self.assertTrue(
                        indexed or isinstance(parent, (ast.Compare, ast.For, ast.comprehension))
                        or called_name(parent) in ("len", "sorted", "list", "dict", "tuple"), (name, node.lineno))

    def test_values(self):
        for name, node in nodes_of(ast.Constant):
            self.assertIn(node.value.__class__, (int, str, bool, None.__class__), (name, node.lineno))
            if isinstance(node.value, str):
                self.assertNotIn("%", node.value, (name, node.lineno))
        for name, node in nodes_of(ast.BinOp):
            if isinstance(node.op, ast.Pow):
                self.assertIsInstance(node.right, ast.Constant, (name, node.lineno))

    def test_pythons_own_are_called_where_they_stand(self):
        functions = {each for each in BUILT_IN if not isinstance(getattr(builtins, each), type)}
        for name, node, parent, above in nodes_with_parents():
            if isinstance(node, ast.Name) and node.id in functions and not isinstance(parent, ast.keyword):
                self.assertTrue(isinstance(parent, ast.Call) and parent.func is node, (name, node.lineno))

    def test_keywords(self):
        for name, node in nodes_of(ast.Call):
            called = called_name(node)
            if called in BUILT_IN | METHODS:
                given = {keyword.arg for keyword in node.keywords}
                self.assertLessEqual(given, KEYWORDS.get(called, set()), (name, node.lineno))

    def test_what_is_walked_is_walked_at_once(self):
        for name, node, parent, above in nodes_with_parents():
            if called_name(node) in WALKED:
                looped = isinstance(parent, (ast.For, ast.comprehension)) and parent.iter is node
                taken = called_name(parent) in WALKERS and node in parent.args
                self.assertTrue(looped or taken, (name, node.lineno))

    def test_sets_are_not_kept(self):
        joins = (ast.Sub, ast.BitAnd, ast.BitOr, ast.BitXor)
        for name, node, parent, above in nodes_with_parents():
            self.assertNotIsInstance(node, ast.Set, name)
            if called_name(node) not in ("set", "frozenset"):
                continue
            joined = isinstance(parent, ast.BinOp) and isinstance(parent.op, joins)
            holder = above if joined else parent
            self.assertTrue(
                isinstance(holder, ast.Compare) or called_name(holder) in ("sorted", "len"), (name, node.lineno))

    def test_is(self):
        for name, node in nodes_of(ast.Compare):
            for operator, right in zip(node.ops, node.comparators):
                if isinstance(operator, (ast.Is, ast.IsNot)):
                    self.assertIn(getattr(right, "value", 0), (None, True, False), (name, node.lineno))

    def test_loops_and_assignments(self):
        for name, node in nodes_of(ast.For, ast.While):
            self.assertEqual(node.orelse, [], (name, node.lineno))
        for name, node in nodes_of(ast.Try):
            self.assertEqual(node.finalbody, [], (name, node.lineno))
        for name, node in nodes_of(ast.Assign):
            self.assertEqual(len(node.targets), 1, (name, node.lineno))
        for name, node in nodes_of(ast.ListComp):
            self.assertEqual(len(node.generators), 1, (name, node.lineno))
            self.assertLessEqual(len(node.generators[0].ifs), 1, (name, node.lineno))
