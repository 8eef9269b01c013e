"""The form of the package: what of the rules of its language a test can see."""

import ast
import builtins
import unittest
import warnings
from pathlib import Path

ROOT = Path(__file__).resolve().parent.parent
FOLDER = ROOT / "tarhouse"
FILES = sorted(FOLDER.glob("*.py"))
TREES = {path.stem: ast.parse(path.read_text()) for path in FILES}

ALLOWED_BUILTINS = set(
    "len range enumerate zip min max sum abs sorted reversed int str bool bytes list tuple dict set"
    " isinstance ord repr any all divmod iter next Exception ValueError TypeError KeyError IndexError"
    " LookupError ZeroDivisionError ArithmeticError OverflowError RuntimeError NotImplementedError"
    " AttributeError StopIteration NotImplemented property classmethod".split()
)
BARRED_WORDS = (
    "type typing typing_extensions enum Enum IntEnum StrEnum Flag IntFlag Generic Protocol ABC ABCMeta"
    " namedtuple NamedTuple TypedDict TYPE_CHECKING abstractmethod".split()
)
BARRED_NAMES = set(
    "register mro elements open input law version_info with_traceback add_note attrgetter breakpoint"
    " builtins compile copyright credits delattr dir eval exec exit gc getattr globals hasattr help id"
    " importlib license locals methodcaller os quit setattr super vars sys".split()
)
DOUBLE_UNDERSCORES = ["__init__", "__eq__", "__repr__", "__len__", "__enter__", "__exit__"]
BUILTIN_METHODS = set(
    "append clear copy count endswith extend find get index insert isalnum isalpha isdigit islower isspace"
    " isupper items join keys ljust lower lstrip partition pop remove replace reverse rfind rjust rpartition"
    " rsplit rstrip setdefault split splitlines startswith strip update upper values zfill bit_length"
    " isascii removeprefix encode decode hex fromhex add discard".split()
)
INTERFACE = {
    "blobs": ["blob"],
    "headers": ["header", "checksum"],
    "writing": ["written", "blocks_of", "Writer"],
    "reading": ["scan", "read", "each", "Reader"],
    "houses": ["House"],
    "unpacking": ["unpacked", "walked"],
    "following": ["followed", "strays"],
    "links": ["resolved", "rings", "dangers"],
    "effects": ["effect"],
    "comparing": ["alike", "parting_house"],
    "editing": ["Editor"],
    "updates": ["fewest_blocks", "least_update", "update_paper"],
    "checker": ["shows"],
    "texts": ["show_member", "read_member"],
    "desk": ["Desk"],
    "members": ["Member", "File", "Sparse", "Directory", "Symlink", "Link", "is_name", "is_path"],
    "errors": [
        "NoBlob", "NoData", "NoBlock", "NoMember", "NoHouse", "NoName", "NoMode", "NoSize", "NoPieces",
        "Torn", "Wrong", "NoText", "NoCommand", "NoTime", "TooMany", "Closed", "Refused", "NoOffset",
        "NoIndex", "NoPath", "NoEdit",
    ],
}
METHODS = {
    ("members", "File"): ["__init__", "__eq__", "__repr__", "content"],
    ("members", "Sparse"): ["__init__", "__eq__", "__repr__", "content"],
    ("members", "Directory"): ["__init__", "__eq__", "__repr__"],
    ("members", "Symlink"): ["__init__", "__eq__", "__repr__"],
    ("members", "Link"): ["__init__", "__eq__", "__repr__"],
    ("writing", "Writer"): ["__init__", "add", "close", "__len__", "archive", "__enter__", "__exit__", "fill"],
    ("reading", "Reader"): ["__init__", "feed", "finish", "trouble", "is_ended", "waiting"],
    ("desk", "Desk"): ["__init__", "say"],
    ("editing", "Editor"): [
        "__init__", "of", "add", "exchange", "take_out", "undo", "archive", "members", "offsets", "__len__",
    ],
    ("houses", "House"): ["__init__", "of", "entries", "sharers", "thing_at", "has", "__len__", "__eq__"],
}


def nodes(*kinds):
    """Yield the file and the node for all nodes of these kinds."""
    for stem, tree in TREES.items():
        for node in ast.walk(tree):
            if isinstance(node, kinds):
                yield stem, node


def defined(stem):
    """Return the names that a file defines at module level, with their nodes."""
    found = {}
    for node in TREES[stem].body:
        if isinstance(node, (ast.FunctionDef, ast.ClassDef)):
            found[node.name] = node
        elif isinstance(node, ast.Assign):
            found[node.targets[0].id] = node
    return found


def bound_names():
    """Yield the file and each name that it binds: not those of attributes."""
    for stem, node in nodes(ast.FunctionDef, ast.ClassDef, ast.arg, ast.Name, ast.alias):
        if isinstance(node, (ast.FunctionDef, ast.ClassDef, ast.alias)):
            yield stem, node.name
        elif isinstance(node, ast.arg):
            yield stem, node.arg
        elif not isinstance(node.ctx, ast.Load):
            yield stem, node.id


class Files(unittest.TestCase):
    def test_the_folder_holds_only_sources(self):
        self.assertIn(FOLDER / "__init__.py", FILES)
        for path in FOLDER.iterdir():
            if path.name != "__pycache__":
                self.assertRegex(path.name, r"^([a-z][a-z0-9_]*|__init__|__main__)\.py$")

    def test_sizes_and_characters(self):
        for path in FILES:
            text = path.read_bytes().decode("ascii")
            with self.subTest(path=path.name):
                self.assertLessEqual(len(text.splitlines()), 399)
                self.assertLessEqual(max(map(len, text.splitlines())), 120)
                self.assertRegex(text, r"\A[ -~\n]*\n\Z")
        for stem, node in nodes(ast.FunctionDef):
            with self.subTest(file=stem, function=node.name):
                self.assertLessEqual(node.end_lineno - node.lineno + 1, 40)

    def test_barred_words(self):
        for path in FILES:
            text = path.read_text()
            with self.subTest(path=path.name):
                self.assertNotRegex(text, rf"\b({'|'.join(BARRED_WORDS)})\b")
                self.assertNotRegex(text, "dataclass|overload|contextmanager")

    def test_python_gives_no_warning(self):
        for path in FILES:
            with warnings.catch_warnings():
                warnings.simplefilter("error")
                compile(path.read_text(), path.name, "exec")


class Names(unittest.TestCase):
    def test_imports_name_the_file_that_defines(self):
        for stem, node in nodes(ast.Import, ast.ImportFrom):
            with self.subTest(file=stem, line=node.lineno):
                self.assertIsInstance(node, ast.ImportFrom)
                self.assertEqual(node.level, 0)
                package, _, module = node.module.partition(".")
                self.assertEqual(package, "tarhouse")
                for alias in node.names:
                    self.assertIsNone(alias.asname)
                    self.assertIn(alias.name, defined(module))

    def test_module_level(self):
        kinds = (ast.FunctionDef, ast.ClassDef, ast.ImportFrom, ast.Assign)
        for stem, tree in TREES.items():
            self.assertIsNotNone(ast.get_docstring(tree), stem)
            for node in tree.body[1:]:
                with self.subTest(file=stem, line=node.lineno):
                    self.assertIsInstance(node, kinds)
                    if isinstance(node, ast.Assign):
                        ast.literal_eval(node.value)

    def test_only_allowed_builtins(self):
        for stem, node in nodes(ast.Name):
            if hasattr(builtins, node.id):
                self.assertIn(node.id, ALLOWED_BUILTINS, stem)

    def test_plain_names(self):
        for stem, name in bound_names():
            with self.subTest(file=stem, name=name):
                if name not in DOUBLE_UNDERSCORES:
                    self.assertRegex(name, r"\A[A-Za-z][A-Za-z0-9_]*\Z")
                    self.assertNotIn(name, BARRED_NAMES)
                    self.assertFalse(hasattr(builtins, name))

    def test_no_variable_has_the_name_of_an_import_or_a_class(self):
        for stem, tree in TREES.items():
            taken = {alias.name for node in tree.body if isinstance(node, ast.ImportFrom) for alias in node.names}
            taken |= {node.name for node in tree.body if isinstance(node, ast.ClassDef)}
            bound = {node.arg for node in ast.walk(tree) if isinstance(node, ast.arg)}
            bound |= {node.id for node in ast.walk(tree) if isinstance(node, ast.Name) and
                      not isinstance(node.ctx, ast.Load)}
            bound |= {node.name for node in ast.walk(tree) if isinstance(node, ast.ExceptHandler)}
            self.assertEqual(taken & bound, set(), stem)

    def test_nothing_is_imported_that_is_not_used(self):
        for stem, tree in TREES.items():
            used = {node.id for node in ast.walk(tree) if isinstance(node, ast.Name)}
            for node in tree.body:
                if isinstance(node, ast.ImportFrom):
                    self.assertEqual({alias.name for alias in node.names} - used, set(), stem)

    def test_no_name_is_a_method_and_an_attribute(self):
        methods = {
            node.name for _, kind in nodes(ast.ClassDef) for node in kind.body
            if isinstance(node, ast.FunctionDef)
        }
        attributes = {node.attr for _, node in nodes(ast.Attribute) if not isinstance(node.ctx, ast.Load)}
        self.assertEqual(methods & attributes, set())


    def test_no_property_is_stored_or_called(self):
        properties = {
            node.name for _, node in nodes(ast.FunctionDef)
            if any(isinstance(decorator, ast.Name) and decorator.id == "property" for decorator in node.decorator_list)
        }
        stored = {node.attr for _, node in nodes(ast.Attribute) if not isinstance(node.ctx, ast.Load)}
        called = {node.func.attr for _, node in nodes(ast.Call) if isinstance(node.func, ast.Attribute)}
        self.assertEqual(properties & (stored | called), set())

    def test_generators_are_not_called(self):
        # Their calls would have to be iterated at once, and their names to be theirs alone.
        found = [
            (stem, node.name) for stem, node in nodes(ast.FunctionDef)
            if any(isinstance(part, (ast.Yield, ast.YieldFrom)) for part in ast.walk(node))
        ]
        self.assertEqual(found, [("reading", "each"), ("unpacking", "walked")])
        names = [name for _, name in found]
        self.assertEqual([node.id for _, node in nodes(ast.Name) if node.id in names], [])
        self.assertEqual([node.attr for _, node in nodes(ast.Attribute) if node.attr in names], [])
        self.assertEqual(sum(node.name in names for _, node in nodes(ast.FunctionDef)), len(names))

    def test_no_file_imports_from_itself_through_others(self):
        imports = {
            stem: {node.module.partition(".")[2] for node in tree.body if isinstance(node, ast.ImportFrom)}
            for stem, tree in TREES.items()
        }
        left = set(imports)
        while free := {stem for stem in left if not imports[stem] & left}:
            left -= free
        self.assertEqual(left, set())


class Expressions(unittest.TestCase):
    def test_decorators(self):
        for stem, node in nodes(ast.FunctionDef, ast.ClassDef):
            for decorator in node.decorator_list:
                self.assertIn(ast.unparse(decorator), ("property", "classmethod"), (stem, node.name))

    def test_only_allowed_methods_are_called(self):
        own = {
            node.name for _, kind in nodes(ast.ClassDef) for node in kind.body if isinstance(node, ast.FunctionDef)
        }
        for stem, node in nodes(ast.Call):
            if isinstance(node.func, ast.Attribute):
                self.assertIn(node.func.attr, own | BUILTIN_METHODS, (stem, node.lineno))

    def test_barred_nodes(self):
        barred = (
            ast.GeneratorExp, ast.Global, ast.Div, ast.AsyncFunctionDef, ast.Await, ast.Match, ast.Nonlocal,
            ast.Import, ast.NamedExpr, ast.AnnAssign,
        )
        found = [(stem, node.lineno) for stem, node in nodes(*barred) if not isinstance(node, ast.Div)]
        self.assertEqual(found, [])
        self.assertEqual(list(nodes(ast.Div)), [])

    def test_is_stands_beside_none_only(self):
        for stem, node in nodes(ast.Compare):
            for operator, other in zip(node.ops, node.comparators):
                if isinstance(operator, (ast.Is, ast.IsNot)):
                    self.assertIsInstance(other, ast.Constant, (stem, node.lineno))
                    self.assertIn(other.value, (None, True, False))

    def test_remainders_of_numbers(self):
        # The package makes bytes, which have a remainder of their own.
        for stem, node in nodes(ast.BinOp, ast.AugAssign):
            if isinstance(node.op, ast.Mod):
                left = node.left if isinstance(node, ast.BinOp) else node.target
                if isinstance(left, ast.UnaryOp):
                    left = left.operand
                self.assertIsInstance(left, ast.Call, (stem, node.lineno))
                self.assertIn(left.func.id, ("len", "int", "sum"))

    def test_views_are_iterated_at_once(self):
        lazy = {"zip", "enumerate", "reversed", "range", "items", "keys", "values"}
        takers = {"list", "tuple", "dict", "sorted", "sum", "any", "all", "enumerate", "zip", "bytes", "min", "max"}
        right = set()
        for _, node in nodes(ast.For, ast.comprehension):
            right.add(node.iter)
        for _, node in nodes(ast.Call):
            if isinstance(node.func, ast.Name) and node.func.id in takers and node.args:
                right.add(node.args[0])
            if isinstance(node.func, ast.Name) and node.func.id == "reversed" and isinstance(node.args[0], ast.Call):
                if isinstance(node.args[0].func, ast.Name) and node.args[0].func.id == "range":
                    right.add(node.args[0])
        for stem, node in nodes(ast.Call):
            name = node.func.id if isinstance(node.func, ast.Name) else getattr(node.func, "attr", "")
            if name in lazy:
                self.assertIn(node, right, (stem, node.lineno))

    def test_no_set_is_stored(self):
        kept = (ast.Assign, ast.AugAssign, ast.Return, ast.keyword)
        for stem, node in nodes(*kept):
            value = node.value
            if isinstance(value, ast.Call) and isinstance(value.func, ast.Name):
                self.assertNotIn(value.func.id, ("set", "frozenset"), stem)
            self.assertNotIsInstance(value, (ast.Set, ast.SetComp), stem)

    def test_errors_are_raised_and_caught_by_name(self):
        own = set(INTERFACE["errors"])
        for stem, node in nodes(ast.Raise):
            if node.exc is not None:
                self.assertIsInstance(node.exc, ast.Call, (stem, node.lineno))
                self.assertIn(node.exc.func.id, own, (stem, node.lineno))
            if node.cause is not None:
                self.assertIsInstance(node.cause, (ast.Constant, ast.Name), (stem, node.lineno))
        for stem, node in nodes(ast.ExceptHandler):
            caught = node.type.elts if isinstance(node.type, ast.Tuple) else [node.type]
            for kind in caught:
                self.assertIn(kind.id, own, (stem, node.lineno))

    def test_strings(self):
        for stem, node in nodes(ast.Constant):
            if isinstance(node.value, str):
                self.assertNotRegex(node.value, r"%|\A__|\._\Z|\.__\Z", (stem, node.lineno))
            self.assertNotIsInstance(node.value, (float, complex))


class Interface(unittest.TestCase):
    def test_each_name_is_defined_in_its_file(self):
        for stem, names in INTERFACE.items():
            found = defined(stem)
            for name in names:
                with self.subTest(file=stem, name=name):
                    self.assertIsInstance(found.get(name), (ast.FunctionDef, ast.ClassDef))

    def test_each_method_is_defined_in_its_class(self):
        for (stem, name), methods in METHODS.items():
            body = defined(stem)[name].body
            found = {node.name for node in body if isinstance(node, ast.FunctionDef)}
            self.assertEqual(set(methods) - found, set(), name)


if __name__ == "__main__":
    unittest.main()
