"""The rules of LANGUAGE.md that can be told from the code at a glance; the package is looked at file by file."""

import ast
import builtins
import os
import re
import unittest

ROOT = os.path.join(os.path.dirname(os.path.dirname(os.path.abspath(__file__))), "edgesaway")
LIBRARY = {
    "heapq": {"heappush", "heappop", "heapify", "heapreplace", "heappushpop"},
    "math": {"gcd", "lcm", "isqrt", "comb", "perm", "factorial"},
    "itertools": {"product", "combinations", "permutations", "chain", "accumulate", "pairwise", "islice", "zip_longest"},
    "collections": {"defaultdict"},
}
BUILTINS = set(
    "len range enumerate zip min max sum abs sorted reversed int str bool list tuple dict set isinstance ord repr any"
    " all divmod iter next map Exception ValueError TypeError KeyError IndexError LookupError ZeroDivisionError"
    " RuntimeError super property staticmethod classmethod".split()
)
METHODS = set(
    "append clear copy count endswith extend find get index insert isalnum isalpha isdigit islower isspace isupper"
    " items join keys ljust lower lstrip partition pop remove replace reverse rfind rjust rpartition rsplit rstrip"
    " setdefault split splitlines startswith strip update upper values zfill bit_length add discard sort".split()
)
DOUBLE = set("__init__ __eq__ __repr__ __str__ __len__ __enter__ __exit__ __call__ __iter__".split())
NEVER = set("register mro elements open input law version_info with_traceback add_note".split())
NO_NAMES = set(
    "attrgetter breakpoint builtins compile copyright credits delattr dir eval exec exit gc globals help id importlib"
    " license locals methodcaller os quit type vars sys".split()
)
NO_WORDS = set(
    "typing typing_extensions enum Enum IntEnum StrEnum Flag IntFlag Generic Protocol ABC ABCMeta namedtuple"
    " NamedTuple TypedDict TYPE_CHECKING abstractmethod".split()
)
STATEMENTS = (
    ast.Assign, ast.AugAssign, ast.If, ast.While, ast.For, ast.Return, ast.Break, ast.Continue, ast.Pass, ast.Raise,
    ast.Assert, ast.Delete, ast.Nonlocal, ast.With, ast.Try, ast.Expr, ast.FunctionDef, ast.ClassDef, ast.ImportFrom,
    ast.Match,
)
BINDERS = (ast.FunctionDef, ast.Lambda)


def package_files():
    found = []
    for folder, _, names in os.walk(ROOT):
        if os.path.basename(folder) != "__pycache__":
            found.extend(os.path.join(folder, name) for name in names)
    return sorted(found)


def bound_names(tree):
    """Each name that is bound somewhere below a tree, but for attributes, methods and imports."""
    found = []
    methods = {
        part for node in ast.walk(tree) if isinstance(node, ast.ClassDef)
        for part in node.body if isinstance(part, ast.FunctionDef)
    }
    for node in ast.walk(tree):
        if isinstance(node, ast.Name) and isinstance(node.ctx, (ast.Store, ast.Del)):
            found.append(node.id)
        elif isinstance(node, ast.arg):
            found.append(node.arg)
        elif isinstance(node, ast.ExceptHandler) and node.name:
            found.append(node.name)
        elif isinstance(node, (ast.FunctionDef, ast.ClassDef)) and node not in methods:
            found.append(node.name)
    return found


class Language(unittest.TestCase):
    def setUp(self):
        self.texts = {}
        self.trees = {}
        for path in package_files():
            with open(path, encoding="utf-8") as file:
                self.texts[path] = file.read()
            self.trees[path] = ast.parse(self.texts[path])

    def nodes(self, *kinds):
        for path, tree in self.trees.items():
            for node in ast.walk(tree):
                if isinstance(node, kinds):
                    yield f"{os.path.basename(path)}:{getattr(node, 'lineno', '?')}", node

    def test_files(self):
        self.assertIn("__init__.py", [os.path.basename(path) for path in self.trees])
        for path in package_files():
            self.assertRegex(os.path.basename(path), r"^[a-z0-9_]+\.py$")

    def test_characters_and_sizes(self):
        for path, text in self.texts.items():
            self.assertTrue(all(sign == "\n" or " " <= sign <= "~" for sign in text), path)
            lines = text.split("\n")
            self.assertLessEqual(len(lines), 400, path)
            self.assertLessEqual(max(len(line) for line in lines), 120, path)
        for at, node in self.nodes(ast.FunctionDef):
            self.assertLessEqual(node.end_lineno - node.lineno + 1, 40, at)

    def test_imports(self):
        self.assertEqual([at for at, _ in self.nodes(ast.Import)], [])
        above = {}
        for path, tree in self.trees.items():
            module = "edgesaway." + os.path.basename(path)[:-3]
            above[module] = set()
            ahead = True
            for node in tree.body:
                docstring = isinstance(node, ast.Expr) and isinstance(node.value, ast.Constant)
                if isinstance(node, ast.ImportFrom):
                    self.assertTrue(ahead, path)
                    self.assertEqual(node.level, 0, path)
                    names = [alias.name for alias in node.names]
                    self.assertTrue(all(alias.asname is None for alias in node.names), path)
                    if node.module in LIBRARY:
                        self.assertLessEqual(set(names), LIBRARY[node.module], path)
                    else:
                        self.check_import(path, node.module, names)
                        above[module].add(node.module)
                elif not docstring:
                    ahead = False
        self.check_no_circle(above)

    def check_import(self, path, module, names):
        package, _, name = module.partition(".")
        self.assertEqual(package, "edgesaway", path)
        tree = self.trees[os.path.join(ROOT, name + ".py")]
        defined = set()
        for node in tree.body:
            if isinstance(node, (ast.FunctionDef, ast.ClassDef)):
                defined.add(node.name)
            elif isinstance(node, ast.Assign):
                defined.update(target.id for target in node.targets)
        self.assertLessEqual(set(names), defined, path)

    def check_no_circle(self, above):
        above = {module: set(needs) for module, needs in above.items()}
        while above:
            free = [module for module, needs in above.items() if not needs & set(above)]
            self.assertTrue(free, f"a circle of imports: {sorted(above)}")
            for module in free:
                del above[module]

    def test_module_level(self):
        for path, tree in self.trees.items():
            names = []
            for node in tree.body:
                if isinstance(node, ast.Assign):
                    self.assertEqual(len(node.targets), 1, path)
                    self.assertIsInstance(node.targets[0], ast.Name, path)
                    names.append(node.targets[0].id)
                    kinds = (ast.Call, ast.Set, ast.ListComp, ast.DictComp, ast.SetComp, ast.Lambda, ast.JoinedStr)
                    self.assertFalse([part for part in ast.walk(node.value) if isinstance(part, kinds)], path)
                elif isinstance(node, ast.ImportFrom):
                    names.extend(alias.name for alias in node.names)
                elif isinstance(node, (ast.FunctionDef, ast.ClassDef)):
                    names.append(node.name)
                else:
                    self.assertIsInstance(node, ast.Expr, path)
                    self.assertIsInstance(node.value, ast.Constant, path)
            self.assertEqual(len(names), len(set(names)), path)

    def test_statements_and_signs(self):
        for at, node in self.nodes(ast.stmt):
            self.assertIsInstance(node, STATEMENTS, at)
        for at, node in self.nodes(ast.Div, ast.Is, ast.IsNot, ast.Compare, ast.MatMult):
            self.assertNotIsInstance(node, (ast.Div, ast.MatMult), at)
            if isinstance(node, ast.Compare):
                for sign, other in zip(node.ops, node.comparators):
                    if isinstance(sign, (ast.Is, ast.IsNot)):
                        self.assertIsInstance(other, ast.Constant, at)
                        self.assertIn(other.value, (None, True, False), at)
        for at, node in self.nodes(ast.Constant):
            self.assertNotIsInstance(node.value, (float, complex), at)
            if isinstance(node.value, str):
                self.assertNotIn("%", node.value, at)
        self.assertEqual([at for at, _ in self.nodes(ast.GeneratorExp, ast.Lambda, ast.Global, ast.NamedExpr)], [])

    def test_no_star_in_an_index(self):
        for at, node in self.nodes(ast.Subscript):
            self.assertFalse([part for part in ast.walk(node.slice) if isinstance(part, ast.Starred)], at)

    def test_calls_with_stars(self):
        """Behind a star of a call, and beside it, stand only names, attributes and literals."""
        for at, node in self.nodes(ast.Call):
            stars = [number for number, part in enumerate(node.args) if isinstance(part, ast.Starred)]
            if stars:
                for part in [*node.args[stars[0]:], *[word.value for word in node.keywords]]:
                    inner = part.value if isinstance(part, ast.Starred) else part
                    self.assertIsInstance(inner, (ast.Name, ast.Attribute, ast.Constant, ast.List, ast.Tuple), at)

    def test_decorators_and_parameters(self):
        for at, node in self.nodes(ast.FunctionDef, ast.ClassDef):
            names = [ast.unparse(decorator) for decorator in node.decorator_list]
            self.assertLessEqual(set(names), {"property", "staticmethod", "classmethod"}, at)
            if isinstance(node, ast.ClassDef):
                self.assertEqual(names, [], at)
                continue
            for default in [*node.args.defaults, *[part for part in node.args.kw_defaults if part]]:
                self.assertIsInstance(ast.literal_eval(default), (int, str, bytes, tuple, type(None)), at)
            if node.name.startswith("__"):
                self.assertIn(node.name, DOUBLE, at)

    def test_names(self):
        for path, tree in self.trees.items():
            imported = {
                alias.name for node in tree.body if isinstance(node, ast.ImportFrom) for alias in node.names
            }
            classes = {node.name for node in tree.body if isinstance(node, ast.ClassDef)}
            for name in bound_names(tree):
                self.assertFalse(hasattr(builtins, name), f"{path}: {name}")
                self.assertNotIn(name, NEVER | NO_NAMES | imported, path)
                self.assertRegex(name, r"^(_|_?[A-Za-z][A-Za-z0-9_]*)$", path)
            for node in ast.walk(tree):
                if isinstance(node, BINDERS):
                    inside = bound_names(node)
                    self.assertFalse(set(inside) & classes, path)
        for at, node in self.nodes(ast.Attribute):
            self.assertNotIn(node.attr, NEVER | {"format", "format_map"}, at)
        for at, node in self.nodes(ast.Name):
            if node.id == "_":
                self.assertIsInstance(node.ctx, ast.Store, at)

    def test_words(self):
        for path, text in self.texts.items():
            self.assertNotRegex(text, r"_wall|_WallAttr|dataclass|overload|contextmanager", path)
            words = set(re.findall(r"[A-Za-z_]+", text))
            self.assertFalse(words & NO_WORDS, path)
        for at, node in self.nodes(ast.Name, ast.Attribute):
            self.assertNotEqual(node.id if isinstance(node, ast.Name) else node.attr, "type", at)

    def test_calls(self):
        own_methods = {
            part.name for _, node in self.nodes(ast.ClassDef) for part in node.body if isinstance(part, ast.FunctionDef)
        }
        defined = {node.name for _, node in self.nodes(ast.FunctionDef, ast.ClassDef)}
        passed = {
            node.func for _, function in self.nodes(ast.FunctionDef) for node in ast.walk(function)
            if isinstance(node, ast.Call) and isinstance(node.func, ast.Name)
            and node.func.id in [part.arg for part in function.args.args]
        }
        # A function of a table is called by a name that it was given.
        for _, function in self.nodes(ast.FunctionDef):
            given = {
                node.targets[0].id for node in ast.walk(function) if isinstance(node, ast.Assign)
                and isinstance(node.value, ast.Subscript) and isinstance(node.value.value, ast.Name)
                and node.value.value.id.isupper()
            }
            for node in ast.walk(function):
                if isinstance(node, ast.Call) and isinstance(node.func, ast.Name) and node.func.id in given:
                    passed.add(node.func)
        for at, node in self.nodes(ast.Call):
            if isinstance(node.func, ast.Attribute):
                self.assertIn(node.func.attr, METHODS | own_methods, at)
            elif node.func not in passed:
                self.assertIsInstance(node.func, ast.Name, at)
                self.assertIn(node.func.id, BUILTINS | defined | {name for row in LIBRARY.values() for name in row}, at)
        for at, node in self.nodes(ast.Raise):
            if node.exc is not None:
                self.assertIsInstance(node.exc, ast.Call, at)

    def test_sets_and_views(self):
        """Sets stand in sorted(..), len(..) or a plain local variable; views and the like are iterated at once."""
        for path, tree in self.trees.items():
            for node in ast.walk(tree):
                for child in ast.iter_child_nodes(node):
                    child.above = node
            for node in ast.walk(tree):
                name = node.func.id if isinstance(node, ast.Call) and isinstance(node.func, ast.Name) else None
                at = f"{path}:{getattr(node, 'lineno', '?')}"
                if name == "set" or isinstance(node, (ast.Set, ast.SetComp)):
                    above = node.above
                    if isinstance(above, ast.Assign):
                        self.assertIsInstance(above.targets[0], ast.Name, at)
                    elif isinstance(above, ast.Call):
                        self.assertIn(above.func.id, ("sorted", "len"), at)
                    else:
                        self.assertIsInstance(above, ast.Compare, at)
                elif name in ("zip", "enumerate", "reversed", "range"):
                    above = node.above
                    if isinstance(above, ast.Call):
                        self.assertIn(above.func.id, ("list", "tuple", "enumerate", "zip", "sorted", "sum"), at)
                    elif not isinstance(above, ast.Compare):
                        self.assertIsInstance(above, (ast.For, ast.comprehension), at)

    def test_stored_sets(self):
        """A set in a variable is added to, asked, measured and sorted there; nothing else happens to it."""
        for at, function in self.nodes(ast.FunctionDef):
            stored = set()
            for node in ast.walk(function):
                if isinstance(node, ast.Assign) and isinstance(node.targets[0], ast.Name):
                    call = node.value
                    if isinstance(call, (ast.Set, ast.SetComp)) or (
                        isinstance(call, ast.Call) and isinstance(call.func, ast.Name) and call.func.id == "set"
                    ):
                        stored.add(node.targets[0].id)
            for node in ast.walk(function):
                for child in ast.iter_child_nodes(node):
                    if isinstance(child, ast.Name) and child.id in stored and isinstance(child.ctx, ast.Load):
                        if isinstance(node, ast.Attribute):
                            self.assertIn(node.attr, ("add", "discard"), at)
                        elif isinstance(node, ast.Call):
                            self.assertIn(node.func.id, ("sorted", "len"), at)
                        else:
                            self.assertIsInstance(node, ast.Compare, at)

    def test_properties_methods_and_attributes(self):
        """A property and a class method share their names with nothing else; a class has each name once."""
        properties, methods, off_class, attributes = set(), set(), set(), set()
        for at, node in self.nodes(ast.ClassDef):
            own = [part for part in node.body if isinstance(part, ast.FunctionDef)]
            self.assertEqual(len(own), len({part.name for part in own}), at)
            stored = {
                part.attr for part in ast.walk(node) if isinstance(part, ast.Attribute)
                and isinstance(part.ctx, ast.Store)
            }
            self.assertFalse(stored & {part.name for part in own}, at)
            attributes |= stored
            for part in own:
                words = [ast.unparse(decorator) for decorator in part.decorator_list]
                (properties if words == ["property"] else off_class if words else methods).add(part.name)
        self.assertFalse(properties & (methods | off_class | attributes | METHODS))
        self.assertFalse(off_class & (methods | attributes | METHODS))
        for at, node in self.nodes(ast.Attribute):
            if isinstance(node.ctx, ast.Store):
                self.assertNotIn(node.attr, properties | methods | off_class, at)

    def test_generators(self):
        """The name of a generator is that of nothing else."""
        defined = [node for _, node in self.nodes(ast.FunctionDef)]
        names = [node.name for node in defined]
        for node in defined:
            if any(isinstance(part, (ast.Yield, ast.YieldFrom)) for part in ast.walk(node)):
                self.assertEqual(names.count(node.name), 1, node.name)
                self.assertNotIn(node.name, METHODS)

    def test_ends_of_with_blocks(self):
        for at, node in self.nodes(ast.FunctionDef):
            if node.name == "__exit__":
                for row in node.body:
                    self.assertIsInstance(row, ast.Assign, at)
                    self.assertIsInstance(row.value, ast.Constant, at)

    def test_docstrings(self):
        for at, node in self.nodes(ast.Module, ast.FunctionDef, ast.ClassDef):
            if getattr(node, "name", "") not in ("__init__", "__exit__"):
                self.assertTrue(ast.get_docstring(node), at)


if __name__ == "__main__":
    unittest.main()
