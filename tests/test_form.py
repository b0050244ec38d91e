"""The form of the code: what LANGUAGE.md tells of it, as far as it is easily looked up.

Where the package needs less than a rule allows (it has no sets, no generators, no
decorator but that of a property, no handlers), the test asks for less: widen it
together with the package.
"""

import ast
import builtins
import os
import re
import unittest

PACKAGE = os.path.join(os.path.dirname(os.path.dirname(os.path.abspath(__file__))), "latestword")
METHODS = set("""append clear copy count endswith extend find get index insert isalnum isalpha isdigit islower
isspace isupper items join keys ljust lower lstrip partition pop remove replace reverse rfind rjust rpartition
rsplit rstrip setdefault split splitlines startswith strip update upper values zfill bit_length""".split())
BUILTINS = set("""len range enumerate zip min max sum abs sorted reversed int str bool list tuple dict isinstance ord
repr any all divmod ValueError Exception KeyError TypeError""".split())
DOUBLE = {"__init__", "__eq__", "__repr__", "__str__", "__len__"}
BARRED = set("""type typing typing_extensions enum Enum IntEnum StrEnum Flag IntFlag Generic Protocol ABC ABCMeta
namedtuple NamedTuple TypedDict TYPE_CHECKING abstractmethod register mro elements open input law version_info
with_traceback add_note _wall _WallAttr""".split())
FORBIDDEN = (
    ast.GeneratorExp, ast.Set, ast.SetComp, ast.Lambda, ast.ExceptHandler, ast.With, ast.Global, ast.Nonlocal, ast.Await,
    ast.AsyncFunctionDef, ast.Yield, ast.YieldFrom, ast.NamedExpr, ast.Starred, ast.Div, ast.MatMult, ast.Pow,
    ast.Delete, ast.Match, ast.JoinedStr, ast.AnnAssign, ast.Assert,
)
TAKING = set("list tuple dict sorted sum any all enumerate zip min max".split())
COMPREHENSIONS = (ast.ListComp, ast.DictComp)
CLASS_NAMES = re.compile("[A-Z][A-Za-z0-9]*")
PLAIN_NAMES = re.compile("_|[A-Za-z][A-Za-z0-9_]*")


def files():
    found = {}
    for name in sorted(os.listdir(PACKAGE)):
        if name != "__pycache__":
            with open(os.path.join(PACKAGE, name), encoding="utf-8", newline="") as held:
                found[name] = held.read()
    return found


def trees():
    return {name[:-3]: ast.parse(text) for name, text in files().items()}


def bound_names(tree):
    """All names that a file binds anywhere, arguments and attributes too."""
    for node in ast.walk(tree):
        if isinstance(node, (ast.FunctionDef, ast.ClassDef)):
            yield node.name
        elif isinstance(node, ast.arg):
            yield node.arg
        elif isinstance(node, ast.Name) and isinstance(node.ctx, ast.Store):
            yield node.id
        elif isinstance(node, ast.alias):
            yield node.asname or node.name


def own_names(function):
    """The names that a function binds, but for those in its comprehensions and nested functions."""
    found = {part.arg for part in function.args.args}
    edge = list(function.body)
    while edge:
        node = edge.pop()
        if isinstance(node, ast.FunctionDef):
            found.add(node.name)
        elif not isinstance(node, COMPREHENSIONS):
            if isinstance(node, ast.Name) and isinstance(node.ctx, ast.Store):
                found.add(node.id)
            edge += ast.iter_child_nodes(node)
    return found


class Form(unittest.TestCase):
    def test_files(self):
        self.assertIn("__init__.py", files())
        self.assertLessEqual(len(files()), 100)
        for name, text in files().items():
            self.assertRegex(name, "^(__init__|[a-z][a-z0-9_]*)[.]py$")
            self.assertNotIn(name[:-3], dir(builtins))
            self.assertRegex(text, "^[ -~\n]*$")
            self.assertTrue(text.endswith("\n") and not text.endswith("\n\n"))
            lines = text.split("\n")
            self.assertLessEqual(len(lines) - 1, 399)
            self.assertLessEqual(max(map(len, lines)), 120)
            self.assertFalse([line for line in lines if line != line.rstrip()])

    def test_functions_are_short(self):
        for tree in trees().values():
            for node in ast.walk(tree):
                if isinstance(node, ast.FunctionDef):
                    self.assertLessEqual(node.end_lineno - node.lineno + 1, 40)

    def test_imports_name_the_defining_file_and_go_in_no_circle(self):
        known = trees()
        above = {}
        for name, tree in known.items():
            above[name] = set()
            for node in ast.walk(tree):
                self.assertNotIsInstance(node, ast.Import)
                if isinstance(node, ast.ImportFrom):
                    self.assertIn(node, tree.body)
                    self.assertEqual(node.level, 0)
                    package, _, source = node.module.partition(".")
                    self.assertEqual(package, "latestword")
                    above[name].add(source)
                    own = {part.name for part in known[source].body if hasattr(part, "name")}
                    own |= {part.targets[0].id for part in known[source].body if isinstance(part, ast.Assign)}
                    for alias in node.names:
                        self.assertIn(alias.name, own)
                        self.assertIsNone(alias.asname)
        self.assertEqual(above["__init__"], set())
        while above:
            free = [name for name, needs in above.items() if not needs & set(above)]
            self.assertTrue(free)
            for name in free:
                del above[name]

    def test_a_finally_puts_one_thing_back(self):
        """It assigns a local name, that was assigned ahead of the try, to an attribute."""
        for tree in trees().values():
            for function in ast.walk(tree):
                if isinstance(function, ast.FunctionDef):
                    for at, node in enumerate(function.body):
                        if isinstance(node, ast.Try):
                            self.assertEqual((len(node.finalbody), node.handlers, node.orelse), (1, [], []))
                            last = node.finalbody[0]
                            self.assertIsInstance(last, ast.Assign)
                            self.assertIsInstance(last.targets[0], ast.Attribute)
                            ahead = [part.targets[0].id for part in function.body[:at] if isinstance(part, ast.Assign)]
                            self.assertIn(last.value.id, ahead)

    def plain_value(self, value, functions, depth=0):
        """A literal, or a dict of such, of tuples of such and of functions."""
        if isinstance(value, ast.Dict):
            self.assertEqual(depth, 0)
            for part in value.keys:
                self.assertIsInstance(part, ast.Constant)
            for part in value.values:
                self.plain_value(part, functions, depth + 1)
        elif isinstance(value, ast.Tuple):
            for part in value.elts:
                self.plain_value(part, functions, depth + 1)
        elif isinstance(value, ast.Name):
            self.assertIn(value.id, functions)
        else:
            self.assertIsInstance(value, (ast.Constant, ast.UnaryOp))

    def test_tables_are_only_read(self):
        """A dict at module level is indexed, or asked whether something is in it, in its own file."""
        for name, tree in trees().items():
            tables = {node.targets[0].id for node in tree.body
                      if isinstance(node, ast.Assign) and isinstance(node.value, ast.Dict)}
            read = {node.value for node in ast.walk(tree) if isinstance(node, ast.Subscript)
                    and isinstance(node.ctx, ast.Load)}
            read |= {part for node in ast.walk(tree) if isinstance(node, ast.Compare)
                     and isinstance(node.ops[0], (ast.In, ast.NotIn)) for part in node.comparators}
            for node in ast.walk(tree):
                if isinstance(node, ast.Name) and node.id in tables and isinstance(node.ctx, ast.Load):
                    self.assertIn(node, read, name)
                if isinstance(node, ast.Call):
                    self.assertIsInstance(node.func, (ast.Name, ast.Attribute), name)

    def test_imports_are_used_and_names_bound_once(self):
        for tree in trees().values():
            used = {node.id for node in ast.walk(tree) if isinstance(node, ast.Name)}
            at_top = []
            for node in tree.body:
                if isinstance(node, ast.ImportFrom):
                    at_top += [alias.name for alias in node.names]
                    self.assertFalse({alias.name for alias in node.names} - used)
                elif isinstance(node, ast.Assign):
                    self.plain_value(node.value, at_top)
                    at_top.append(node.targets[0].id)
                elif isinstance(node, (ast.FunctionDef, ast.ClassDef)):
                    at_top.append(node.name)
                else:
                    self.assertIsInstance(node, ast.Expr)
                    self.assertEqual(ast.get_docstring(tree, clean=False), node.value.value)
            self.assertEqual(len(at_top), len(set(at_top)))

    def test_no_local_name_hides_another(self):
        for tree in trees().values():
            taken = {alias.name for node in tree.body if isinstance(node, ast.ImportFrom) for alias in node.names}
            taken |= {node.name for node in tree.body if isinstance(node, (ast.ClassDef, ast.FunctionDef))}
            for node in ast.walk(tree):
                if isinstance(node, ast.FunctionDef):
                    for name in bound_names(ast.Module([node.args] + node.body, [])):
                        self.assertNotIn(name, taken)

    def test_names(self):
        for tree in trees().values():
            for name in bound_names(tree):
                self.assertTrue(PLAIN_NAMES.fullmatch(name) or name in DOUBLE, name)
                self.assertNotIn(name, dir(builtins))
            over = {decorator for node in ast.walk(tree) for decorator in getattr(node, "decorator_list", ())}
            for node in ast.walk(tree):
                if isinstance(node, ast.ClassDef):
                    self.assertTrue(CLASS_NAMES.fullmatch(node.name))
                if isinstance(node, ast.Name) and node.id in dir(builtins) and node not in over:
                    self.assertIn(node.id, BUILTINS)
                if isinstance(node, ast.Name) and node.id == "_":
                    self.assertIsInstance(node.ctx, ast.Store)

    def test_only_the_syntax_that_is_needed(self):
        for name, tree in trees().items():
            methods = [part for node in tree.body if isinstance(node, ast.ClassDef) for part in node.body]
            for node in ast.walk(tree):
                self.assertNotIsInstance(node, FORBIDDEN, name)
                if isinstance(node, ast.FunctionDef) and node not in methods:
                    self.assertFalse(node.decorator_list)
                for decorator in getattr(node, "decorator_list", ()):
                    self.assertEqual(ast.unparse(decorator), "property")
                    self.assertEqual([part.arg for part in node.args.args], ["self"])
                if isinstance(node, ast.Constant):
                    self.assertIn(type(node.value), (int, str, bool, type(None)))
                    self.assertNotIn("%", str(node.value))
                if isinstance(node, ast.Compare):
                    for sign, side in zip(node.ops, node.comparators):
                        if isinstance(sign, (ast.Is, ast.IsNot)):
                            self.assertIsInstance(side, ast.Constant)
                if isinstance(node, ast.Raise):
                    self.assertIsInstance(node.exc, ast.Call)
                    self.assertIsNone(node.cause)

    def test_ranges_and_views_are_iterated_at_once(self):
        """They stand behind the `in` of a loop, or in a call that goes over them."""
        for name, tree in trees().items():
            at_once = set()
            for node in ast.walk(tree):
                if isinstance(node, (ast.For, ast.comprehension)):
                    at_once.add(node.iter)
                if isinstance(node, ast.Call) and isinstance(node.func, ast.Name) and node.func.id in TAKING:
                    at_once |= set(node.args)
            for node in ast.walk(tree):
                if isinstance(node, ast.Call):
                    word = node.func.id if isinstance(node.func, ast.Name) else node.func.attr
                    if word in ("range", "zip", "enumerate", "reversed", "items", "keys", "values"):
                        self.assertIn(node, at_once, name)
                    if word in ("zip", "enumerate", "reversed") or word == "range" and len(node.args) == 3:
                        self.assertFalse(node.keywords)

    def test_nested_comprehensions_hide_no_name(self):
        """No variable of a comprehension in another one, or in a nested function, is bound further out."""
        for tree in trees().values():
            self.go_in(tree, set(), 0)

    def go_in(self, node, taken, depth):
        for part in ast.iter_child_nodes(node):
            if isinstance(part, ast.FunctionDef):
                self.go_in(part, taken | own_names(part), depth + 1)
            elif isinstance(part, COMPREHENSIONS):
                own = {name.id for generator in part.generators for name in ast.walk(generator.target)
                       if isinstance(name, ast.Name)}
                if depth > 1:
                    self.assertFalse(own & taken)
                self.go_in(part, taken | own, max(depth, 2))
            else:
                self.go_in(part, taken, depth)

    def test_methods(self):
        own = {
            node.name for tree in trees().values() for part in tree.body if isinstance(part, ast.ClassDef)
            for node in part.body if isinstance(node, ast.FunctionDef)
        }
        kept = {
            node.attr for tree in trees().values() for node in ast.walk(tree)
            if isinstance(node, ast.Attribute) and isinstance(node.ctx, ast.Store)
        }
        self.assertFalse(own & kept)
        for tree in trees().values():
            for node in ast.walk(tree):
                if isinstance(node, ast.Call) and isinstance(node.func, ast.Attribute):
                    self.assertIn(node.func.attr, METHODS | own)
                elif isinstance(node, ast.Attribute):
                    self.assertIn(node.attr, kept | METHODS | own)

    def test_barred_words(self):
        for tree in trees().values():
            words = set(bound_names(tree))
            words |= {node.attr for node in ast.walk(tree) if isinstance(node, ast.Attribute)}
            self.assertFalse(words & BARRED)
        for text in files().values():
            self.assertFalse(set(re.findall("[A-Za-z_]+", text)) & {"_wall", "_WallAttr"})
            self.assertNotRegex(text, "dataclass|overload|contextmanager")


if __name__ == "__main__":
    unittest.main()
