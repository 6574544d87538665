"""Those rules of the language subset that a script can see, held by every file of the package.

Where the package does without something that a rule allows within limits (stored sets, stars, generator
expressions, `+=`), the tests bar it altogether: whoever needs it first extends the test by the rule.
"""

import ast
import builtins
import io
import pathlib
import re
import tokenize
import unittest

FOLDER = pathlib.Path(__file__).resolve().parent.parent / "stubbornest"
SOURCES = {path.stem: path.read_text(encoding="utf-8") for path in sorted(FOLDER.rglob("*.py"))}
TREES = {name: ast.parse(text) for name, text in SOURCES.items()}

# Statements, expressions and their parts that the package uses, all of which the rules allow.
NODES = set("""
    Module Expr ImportFrom alias FunctionDef arguments arg Return ClassDef Assign For While If Raise Try ExceptHandler
    Break Continue Pass Yield
    Constant Name Attribute Subscript Slice Tuple List Dict Call keyword Starred Load Store
    BinOp UnaryOp BoolOp Compare IfExp And Or Not USub Add Sub Mult FloorDiv Mod LShift RShift BitAnd BitOr BitXor
    Eq NotEq Lt LtE Gt GtE Is IsNot In NotIn ListComp DictComp comprehension Lambda
""".split())

# L8, without what the package does not need.
BUILTINS = set("""
    len range enumerate zip min max sum abs sorted reversed int str bool list tuple dict set isinstance any all divmod
    iter ValueError True False None
""".split())

# L5
DOUBLE = {
    "__init__", "__eq__", "__repr__", "__str__", "__len__", "__call__", "__iter__", "__contains__", "__and__", "__or__",
}

# L25, without what changes a list in place by sorting.
METHODS = set("""
    append clear copy count endswith extend find get index insert isalnum isalpha isdigit islower isspace isupper items
    join keys ljust lower lstrip partition pop remove replace reverse rfind rjust rpartition rsplit rstrip setdefault
    split splitlines startswith strip update upper values zfill bit_length
""".split())

# L26
CHANGING = set("append clear extend insert pop remove reverse setdefault update".split())
BARRED_ATTRIBUTES = set("""
    items keys values pop update append clear extend insert remove reverse setdefault sort args encode decode hex fromhex
    format format_map mro as_integer_ratio bit_count conjugate from_bytes is_integer to_bytes
""".split())

# L17
NOWHERE = set("register mro elements open input law version_info with_traceback add_note".split())
NO_NAMES = set("""
    attrgetter breakpoint builtins compile copyright credits delattr dir eval exec exit gc getattr globals hasattr help id
    importlib license locals methodcaller os quit setattr super type vars sys chr
""".split())
NO_WORDS = set("""
    type typing typing_extensions enum Enum IntEnum StrEnum Flag IntFlag Generic Protocol ABC ABCMeta namedtuple
    NamedTuple TypedDict TYPE_CHECKING abstractmethod
""".split())

# L23: what iterates at once.
TAKERS = {"list", "tuple", "dict", "sorted", "sum", "any", "all", "enumerate", "zip", "min", "max"}

FUNCTIONS = (ast.FunctionDef, ast.Lambda)


def all_nodes(kind):
    """Every node of this kind, with the name of its file."""
    for name, tree in TREES.items():
        for node in ast.walk(tree):
            if isinstance(node, kind):
                yield name, node


def parents(tree):
    return {child: node for node in ast.walk(tree) for child in ast.iter_child_nodes(node)}


def parameters(function):
    told = function.args
    return [arg.arg for arg in told.posonlyargs + told.args + told.kwonlyargs]


def stored_names(tree):
    return {node.id for node in ast.walk(tree) if isinstance(node, ast.Name) and isinstance(node.ctx, ast.Store)}


def imported_names(tree):
    return [alias.name for node in tree.body if isinstance(node, ast.ImportFrom) for alias in node.names]


def defined_names(tree):
    names = [node.name for node in tree.body if isinstance(node, (ast.FunctionDef, ast.ClassDef))]
    return names + [node.targets[0].id for node in tree.body if isinstance(node, ast.Assign)]


def own_methods():
    return {
        item.name for _, node in all_nodes(ast.ClassDef) for item in node.body if isinstance(item, ast.FunctionDef)
    }


def error_names():
    return {node.name for node in TREES["errors"].body if isinstance(node, ast.ClassDef)}


class Files(unittest.TestCase):
    def test_names_of_files(self):
        paths = [path for path in FOLDER.rglob("*") if "__pycache__" not in path.parts]
        self.assertLessEqual(len(paths), 100)
        self.assertTrue((FOLDER / "__init__.py").is_file())
        for path in paths:
            self.assertTrue(path.is_file() and path.suffix == ".py", path)
            if path.name != "__init__.py":
                self.assertRegex(path.name, r"\A[a-z][a-z0-9_]*\.py\Z")
                self.assertNotRegex(path.stem, r"\A(law_.*|tests?|testing|test_.*|site|conftest|(site|user)customize)\Z")
                self.assertNotIn(path.stem, NOWHERE | NO_NAMES | NO_WORDS | set(dir(builtins)))

    def test_sizes(self):
        for name, text in SOURCES.items():
            lines = text.split("\n")
            self.assertLessEqual(len(lines), 399, name)
            for line in lines:
                self.assertLessEqual(len(line), 120, name)
        for name, node in all_nodes(ast.FunctionDef):
            self.assertLessEqual(node.end_lineno - node.lineno + 1, 40, (name, node.name))

    def test_characters(self):
        for name, text in SOURCES.items():
            self.assertRegex(text, r"\A[ -~\n]*\Z", name)

    def test_module_level(self):
        for name, tree in TREES.items():
            at_top = True
            for number, node in enumerate(tree.body):
                if isinstance(node, ast.ImportFrom):
                    self.assertTrue(at_top, name)
                    continue
                docstring = number == 0 and isinstance(node, ast.Expr) and isinstance(node.value, ast.Constant)
                at_top = at_top and docstring
                if isinstance(node, ast.Assign):
                    self.assertEqual([target.__class__ for target in node.targets], [ast.Name])
                    ast.literal_eval(node.value)
                else:
                    self.assertTrue(docstring or isinstance(node, (ast.FunctionDef, ast.ClassDef)), (name, node))

    def test_one_binding_for_each_name(self):
        for name, tree in TREES.items():
            bound = imported_names(tree) + defined_names(tree)
            self.assertEqual(sorted(bound), sorted(set(bound)), name)


class Imports(unittest.TestCase):
    def test_from_the_very_file(self):
        for name, node in all_nodes(ast.ImportFrom):
            self.assertEqual(node.level, 0)
            package, _, module = node.module.partition(".")
            self.assertEqual(package, "stubbornest", name)
            for alias in node.names:
                self.assertIsNone(alias.asname)
                self.assertIn(alias.name, defined_names(TREES[module]), (name, module))

    def test_every_import_is_used(self):
        for name, tree in TREES.items():
            used = {node.id for node in ast.walk(tree) if isinstance(node, ast.Name)}
            self.assertEqual([word for word in imported_names(tree) if word not in used], [], name)

    def test_no_circles(self):
        left = {
            name: {node.module.partition(".")[2] for node in ast.walk(tree) if isinstance(node, ast.ImportFrom)}
            for name, tree in TREES.items()
        }
        while left:
            free = [name for name, needs in left.items() if not needs & set(left)]
            self.assertTrue(free, left)
            for name in free:
                del left[name]


class Words(unittest.TestCase):
    def test_nodes(self):
        for name, node in all_nodes(ast.AST):
            self.assertIn(node.__class__.__name__, NODES, (name, getattr(node, "lineno", 0)))

    def test_names(self):
        for name, tree in TREES.items():
            names = stored_names(tree) | set(imported_names(tree)) | set(defined_names(tree))
            for _, node in [(name, node) for node in ast.walk(tree) if isinstance(node, FUNCTIONS)]:
                names.update(parameters(node))
            for word in names:
                self.assertRegex(word, r"\A(_|_?[A-Za-z][A-Za-z0-9_]*)\Z", name)
                self.assertNotRegex(word, r"\A(_wall|_pe_|_dcw_|_enum_|_cm_|_twin_re_|_lay_|_law_|_stub_|_sre)", name)
                # Doctests leave a builtin "_" behind.
                self.assertNotIn(word, NOWHERE | NO_NAMES | set(dir(builtins)) - {"_"}, name)

    def test_underscore_is_never_read(self):
        for name, node in all_nodes(ast.Name):
            self.assertFalse(node.id == "_" and isinstance(node.ctx, ast.Load), (name, node.lineno))

    def test_no_local_name_is_that_of_an_import_or_a_class_or_a_function(self):
        for name, tree in TREES.items():
            barred = set(imported_names(tree)) | set(defined_names(tree))
            for node in ast.walk(tree):
                if isinstance(node, FUNCTIONS):
                    local = set(parameters(node)) | stored_names(node)
                    self.assertEqual(local & barred, set(), (name, node.lineno))

    def test_builtins(self):
        for name, tree in TREES.items():
            known = set(imported_names(tree)) | set(defined_names(tree)) | stored_names(tree)
            for node in ast.walk(tree):
                if isinstance(node, FUNCTIONS):
                    known.update(parameters(node))
            for node in ast.walk(tree):
                if isinstance(node, ast.Name) and node.id not in known:
                    self.assertIn(node.id, BUILTINS, (name, node.lineno))

    def test_barred_words(self):
        for name, text in SOURCES.items():
            before = None
            for token in tokenize.generate_tokens(io.StringIO(text).readline):
                docstring = token.string.startswith('"""') and before in (None, tokenize.INDENT, tokenize.NEWLINE)
                if token.type in (tokenize.NAME, tokenize.STRING) and not docstring:
                    words = set(re.findall(r"[A-Za-z_]+", token.string))
                    # What L17 bars as names alone may stand in strings: the document has an entry "open".
                    barred = NO_WORDS | NOWHERE if token.type == tokenize.NAME else NO_WORDS
                    self.assertEqual(words & barred, set(), (name, token.start))
                    self.assertNotRegex(token.string, "dataclass|overload|contextmanager|_wall|_WallAttr")
                if token.type not in (tokenize.NL, tokenize.COMMENT, tokenize.DEDENT):
                    before = token.type

    def test_strings(self):
        for name, text in SOURCES.items():
            for token in tokenize.generate_tokens(io.StringIO(text).readline):
                if token.type == tokenize.STRING:
                    self.assertNotIn("%", token.string, name)
                    self.assertEqual(re.findall(r"\\[^nt\\'\"]", token.string), [], name)
                    self.assertNotRegex(token.string, r"\._+[\"']\Z", name)
                    self.assertNotRegex(token.string, r"\A[\"']__.*__[\"']\Z", name)


class Classes(unittest.TestCase):
    def test_bodies(self):
        for name, node in all_nodes(ast.ClassDef):
            self.assertIn(node, TREES[name].body)
            self.assertEqual(node.decorator_list, [])
            methods = [item.name for item in node.body if isinstance(item, ast.FunctionDef)]
            self.assertEqual(len(methods), len(set(methods)))
            for number, item in enumerate(node.body):
                docstring = number == 0 and isinstance(item, ast.Expr)
                self.assertTrue(docstring or isinstance(item, ast.FunctionDef), (name, item.lineno))

    def test_functions(self):
        doubles = []
        for name, node in all_nodes(ast.FunctionDef):
            self.assertEqual(node.decorator_list, [])
            told = node.args
            self.assertFalse(told.vararg or told.kwarg or told.posonlyargs or told.kwonlyargs)
            # L4: default values are plain; L28 knows none for the double-underscore methods used here.
            for value in told.defaults:
                self.assertIn(ast.literal_eval(value).__class__, (int, str, bool, None.__class__))
                self.assertFalse(node.name.startswith("__"), name)
            if node.name.startswith("__"):
                self.assertIn(node.name, DOUBLE)
                doubles.append(node)
        for node in doubles:
            returns = [item.value for item in ast.walk(node) if isinstance(item, ast.Return)]
            if node.name == "__init__":
                self.assertEqual(returns, [])
            elif node.name == "__len__":
                # L28: a class with a length is iterated over, so this is no len(range(..)).
                self.assertEqual([value.func.id for value in returns], ["len"])
                self.assertNotRegex(ast.unparse(node), r"len\(range\(")
            elif node.name == "__iter__":
                self.assertEqual(len(node.body), 1)
                self.assertRegex(ast.unparse(node.body[0]), r"\Areturn iter\(self\.\w+\)\Z")

    def test_attributes(self):
        stored = {node.attr for _, node in all_nodes(ast.Attribute) if isinstance(node.ctx, ast.Store)}
        self.assertEqual(stored & BARRED_ATTRIBUTES, set())
        for _, node in all_nodes(ast.ClassDef):
            told = [item for item in ast.walk(node) if isinstance(item, ast.Attribute)]
            mine = {item.attr for item in told if isinstance(item.ctx, ast.Store)}
            self.assertEqual(mine & {getattr(item, "name", "") for item in node.body}, set())
        # L18: a name that is a method of one class and an attribute of another one is not called.
        called = {node.func.attr for _, node in all_nodes(ast.Call) if isinstance(node.func, ast.Attribute)}
        self.assertEqual(stored & own_methods() & called, set())
        classes = {node.name for _, node in all_nodes(ast.ClassDef)}
        for name, node in all_nodes(ast.Attribute):
            self.assertNotIn(ast.unparse(node.value), classes, (name, node.lineno))
            self.assertIsInstance(node.value, (ast.Name, ast.Constant, ast.Call, ast.Attribute, ast.Subscript))
            self.assertIn(node.attr, stored | own_methods() | METHODS, (name, node.lineno))
            if isinstance(node.ctx, ast.Store):
                self.assertEqual(ast.unparse(node.value), "self")

    def test_objects_are_iterated_or_measured_without_products(self):
        # L2: a class that is iterated over and has a length bars product, combinations and permutations.
        self.assertFalse([node for _, node in all_nodes(ast.ImportFrom) if node.module.startswith("itertools")])


class Operators(unittest.TestCase):
    """L5: operators, `__eq__` and `__len__` change nothing but lists and dicts of their own, nor does what they call."""

    def reached(self):
        """The functions and methods that the operators may call, themselves too, with their names."""
        bodies = {}
        for name, node in all_nodes(ast.FunctionDef):
            bodies.setdefault(node.name, []).append(node)
        for name, node in all_nodes(ast.ClassDef):
            bodies[node.name] = [item for item in node.body if getattr(item, "name", "") == "__init__"]
        found, waiting = {}, [name for name in bodies if name in DOUBLE - {"__init__", "__iter__", "__call__"}]
        while waiting:
            name = waiting.pop()
            if name not in found:
                found[name] = bodies[name]
                for call in [item for body in bodies[name] for item in ast.walk(body) if isinstance(item, ast.Call)]:
                    word = call.func.id if isinstance(call.func, ast.Name) else call.func.attr
                    if word in bodies:
                        waiting.append(word)
        return [(name, body) for name, rows in found.items() for body in rows]

    def own_names(self, function):
        """The local names that are only ever assigned new lists and dicts."""
        values = {}
        for node in ast.walk(function):
            if isinstance(node, ast.Assign):
                for target in node.targets:
                    for word in stored_names(target):
                        values.setdefault(word, []).append(node.value if isinstance(target, ast.Name) else None)
            if isinstance(node, (ast.For, ast.comprehension)):
                for word in stored_names(node.target):
                    values.setdefault(word, []).append(None)
        return {word for word, rows in values.items() if all(is_new(value) for value in rows)} - set(parameters(function))

    def test_they_change_nothing(self):
        names = {name for name, _ in self.reached()}
        self.assertLessEqual({"__and__", "__or__", "__contains__", "__eq__", "__len__", "is_table", "walk"}, names)
        for name, function in self.reached():
            own = self.own_names(function)
            for node in ast.walk(function):
                self.assertNotIsInstance(node, (ast.Yield, ast.AugAssign, ast.Lambda), name)
                if isinstance(node, ast.Attribute) and isinstance(node.ctx, ast.Store):
                    self.assertEqual((function.name, ast.unparse(node.value)), ("__init__", "self"))
                if isinstance(node, ast.Subscript) and isinstance(node.ctx, ast.Store):
                    self.assertIn(ast.unparse(node.value), own, name)
                if isinstance(node, ast.Call) and isinstance(node.func, ast.Attribute) and node.func.attr in CHANGING:
                    # Lists in a list of its own that it made itself count, too.
                    changed = node.func.value
                    changed = changed.value if isinstance(changed, ast.Subscript) else changed
                    self.assertIn(ast.unparse(changed), own, name)


class Errors(unittest.TestCase):
    def test_handlers_name_own_errors(self):
        for name, node in all_nodes(ast.ExceptHandler):
            self.assertIsInstance(node.type, ast.Name)
            self.assertIn(node.type.id, error_names(), name)
            self.assertIsNone(node.name)

    def test_errors_are_created_on_the_spot(self):
        for name, node in all_nodes(ast.Raise):
            self.assertIsInstance(node.exc, ast.Call, name)
            self.assertIn(node.exc.func.id, error_names(), name)
            self.assertEqual(node.exc.keywords, [])
            self.assertIsNone(node.cause)

    def test_error_classes(self):
        for node in TREES["errors"].body[1:]:
            self.assertEqual(len(node.bases), 1)


class Expressions(unittest.TestCase):
    def test_is(self):
        for name, node in all_nodes(ast.Compare):
            for sign, right in zip(node.ops, node.comparators):
                if isinstance(sign, (ast.Is, ast.IsNot)):
                    self.assertIn(ast.unparse(right), ("None", "True", "False"), name)

    def test_numbers_and_constants(self):
        for name, node in all_nodes(ast.Constant):
            self.assertIn(node.value.__class__, (int, str, bool, None.__class__), name)
            if isinstance(node.value, int):
                self.assertLess(abs(node.value), 10 ** 900)

    def test_keywords(self):
        allowed = {"sorted": {"key", "reverse"}, "min": {"key", "default"}, "max": {"key", "default"}}
        for name, node in all_nodes(ast.Call):
            words = {word.arg for word in node.keywords}
            if words:
                self.assertIsInstance(node.func, ast.Name, name)
                self.assertLessEqual(words, allowed.get(node.func.id, set()), name)

    def test_isinstance(self):
        classes = {node.name for _, node in all_nodes(ast.ClassDef)} | {"int", "str", "bool", "list", "tuple", "dict"}
        for name, node in all_nodes(ast.Call):
            if ast.unparse(node.func) == "isinstance":
                self.assertIn(ast.unparse(node.args[1]), classes, name)

    def test_sorted_lists_only(self):
        # L25: no .sort() where a class has __eq__ or __len__.
        self.assertEqual([node for _, node in all_nodes(ast.Attribute) if node.attr == "sort"], [])

    def test_sets_are_sorted_at_once(self):
        for name, tree in TREES.items():
            above = parents(tree)
            for node in ast.walk(tree):
                if isinstance(node, ast.Name) and node.id == "set":
                    outer = above[above[node]]
                    self.assertEqual((ast.unparse(outer.func), len(outer.args), outer.keywords), ("sorted", 1, []), name)

    def test_iterated_at_once(self):
        for name, tree in TREES.items():
            above = parents(tree)
            for node in ast.walk(tree):
                if isinstance(node, ast.Call) and ast.unparse(node.func) in ("zip", "enumerate", "reversed", "range"):
                    self.assertTrue(is_taken(node, above), (name, node.lineno))
                if isinstance(node, ast.Call) and isinstance(node.func, ast.Attribute):
                    if node.func.attr in ("items", "keys", "values"):
                        self.assertTrue(is_taken(node, above), (name, node.lineno))

    def test_generators(self):
        generators = {
            node.name for _, node in all_nodes(ast.FunctionDef) if [x for x in ast.walk(node) if isinstance(x, ast.Yield)]
        }
        self.assertFalse(generators & own_methods())
        for name, tree in TREES.items():
            above = parents(tree)
            for node in ast.walk(tree):
                if isinstance(node, ast.Yield):
                    self.assertIsInstance(above[node], ast.Expr)
                if isinstance(node, ast.Name) and node.id in generators:
                    self.assertIs(above[node].func, node, name)
                    self.assertTrue(is_taken(above[node], above), name)


def is_new(value):
    """Whether the value is a list or a dict that is made here."""
    if isinstance(value, (ast.List, ast.ListComp, ast.Dict, ast.DictComp)):
        return True
    if isinstance(value, ast.BinOp) and isinstance(value.op, ast.Mult):
        return isinstance(value.left, ast.List)
    return isinstance(value, ast.Call) and ast.unparse(value.func) in ("list", "dict", "sorted")


def is_taken(node, above):
    """Whether what the node gives is iterated on the spot, or is a range kept under a name or measured."""
    outer = above[node]
    kept = node.func.id if isinstance(node.func, ast.Name) else None
    if isinstance(outer, ast.Assign):
        return kept == "range"
    if isinstance(outer, (ast.For, ast.comprehension)):
        return outer.iter is node
    if not isinstance(outer, ast.Call) or not isinstance(outer.func, ast.Name) or outer.args[0] is not node:
        return isinstance(outer, ast.Call) and ast.unparse(outer.func) == "zip"
    return outer.func.id in TAKERS or (kept == "range" and outer.func.id in ("len", "reversed"))
