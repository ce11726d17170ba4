"""The rules of LANGUAGE.md that can be seen by looking at the code of the package."""

import ast
import builtins
import pathlib
import re
import unittest

PACKAGE = pathlib.Path(__file__).resolve().parent.parent / "unseentables"
FILES = sorted(PACKAGE.rglob("*.py"))
BUILTINS = set(
    "len range enumerate zip min max sum abs sorted reversed int str bool bytes list tuple dict set frozenset "
    "isinstance ord repr any all divmod pow getattr hasattr setattr iter next map super Exception ValueError "
    "TypeError KeyError IndexError LookupError ZeroDivisionError ArithmeticError OverflowError RuntimeError "
    "NotImplementedError AttributeError StopIteration NotImplemented".split())
METHODS = set(
    "append clear copy count endswith extend find get index insert isalnum isalpha isdigit islower isspace isupper "
    "items join keys ljust lower lstrip partition pop remove replace reverse rfind rjust rpartition rsplit rstrip "
    "setdefault split splitlines startswith strip update upper values zfill bit_length add discard".split())
LIBRARY = {
    "heapq": {"heappush", "heappop", "heapify", "heapreplace", "heappushpop"},
    "math": {"gcd", "lcm", "isqrt", "comb", "perm", "factorial"},
    "itertools": {"product", "combinations", "permutations", "chain", "accumulate", "pairwise", "islice",
                  "zip_longest"},
    "collections": {"defaultdict"},
}
BARRED_WORDS = re.compile(
    r"\b(type|typing|typing_extensions|enum|Enum|IntEnum|StrEnum|Flag|IntFlag|Generic|Protocol|ABC|ABCMeta|"
    r"namedtuple|NamedTuple|TypedDict|TYPE_CHECKING|abstractmethod|_wall|_WallAttr)\b")
BARRED_NAMES = set(
    "register mro elements open input law version_info with_traceback add_note attrgetter breakpoint builtins "
    "compile copyright credits delattr dir eval exec exit gc globals help id importlib license locals methodcaller "
    "os quit vars sys _cold _tuplegetter _outside _record _written_out _member_names".split())
BARRED_BEGINNINGS = re.compile(
    r"^(_wall|_pe_|_dcw_|_enum_|_cm_|_twin_re_|_lay_|_law_|_stub_|_sre|_WallAttr|law_|__|"
    r"(_cold|_tuplegetter|_outside|_record|_written_out|_member_names)[0-9_]*$)")
# What goes over something once, and what may go over it: these builtins, loops and comprehensions.
ITERATORS = ("range", "zip", "enumerate", "reversed")
GOING_OVER = ("list", "tuple", "dict", "sorted", "sum", "any", "all", "enumerate", "zip", "min", "max")
BARRED_ATTRIBUTES = set(
    "items keys values pop update append clear extend insert remove reverse setdefault sort args encode decode hex "
    "fromhex format format_map mro".split())
BARRED_NODES = (
    ast.Import, ast.Global, ast.AsyncFunctionDef, ast.Await, ast.AsyncFor, ast.AsyncWith, ast.Div, ast.MatMult,
)


def parsed(path):
    return ast.parse(path.read_text(encoding="utf-8"), str(path))


def functions_of(tree):
    return [node for node in ast.walk(tree) if isinstance(node, ast.FunctionDef)]


def bound_names(tree):
    """Every name that a file binds somewhere, but for its attributes."""
    for node in ast.walk(tree):
        if isinstance(node, (ast.FunctionDef, ast.ClassDef)):
            yield node.name
        elif isinstance(node, ast.arg):
            yield node.arg
        elif isinstance(node, ast.Name) and isinstance(node.ctx, ast.Store):
            yield node.id
        elif isinstance(node, ast.ExceptHandler) and node.name:
            yield node.name


def top_names(tree):
    """The names that a file defines at its top, without its imports."""
    found = []
    for node in tree.body:
        if isinstance(node, (ast.FunctionDef, ast.ClassDef)):
            found.append(node.name)
        elif isinstance(node, ast.Assign):
            found.extend([target.id for target in node.targets])
    return found


def imports_of(tree):
    return [node for node in tree.body if isinstance(node, ast.ImportFrom)]


class Language(unittest.TestCase):
    def each_file(self):
        for path in FILES:
            with self.subTest(path.name):
                yield path, parsed(path)

    def test_files(self):
        self.assertTrue((PACKAGE / "__init__.py").is_file())
        for path in PACKAGE.rglob("*"):
            if "__pycache__" not in path.parts:
                self.assertEqual(path.suffix, ".py")
                self.assertRegex(path.name, r"^[a-z_][a-z0-9_]*\.py$")

    def test_lines_and_signs(self):
        for path in FILES:
            text = path.read_text(encoding="utf-8")
            with self.subTest(path.name):
                self.assertRegex(text, r"\A[\n -~]*\Z")
                self.assertLessEqual(len(text.splitlines()), 399)
                self.assertLessEqual(max([len(line) for line in text.splitlines()]), 120)

    def test_functions_are_short(self):
        for _, tree in self.each_file():
            for node in functions_of(tree):
                self.assertLessEqual(node.end_lineno - node.lineno + 1, 40, node.name)

    def test_module_level(self):
        for _, tree in self.each_file():
            self.assertIsInstance(ast.get_docstring(tree), str)
            for node in tree.body[1:]:
                self.assertIsInstance(node, (ast.ImportFrom, ast.FunctionDef, ast.ClassDef, ast.Assign))
            names = top_names(tree) + [item.name for node in imports_of(tree) for item in node.names]
            self.assertEqual(len(names), len(set(names)))

    def test_statements_and_signs(self):
        for _, tree in self.each_file():
            for node in ast.walk(tree):
                self.assertNotIsInstance(node, BARRED_NODES)
                self.assertEqual(getattr(node, "decorator_list", []), [])
                if isinstance(node, ast.Constant):
                    self.assertNotIsInstance(node.value, (float, complex, bytes))
                    self.assertNotIn("%", str(node.value))

    def test_names(self):
        barred = BARRED_NAMES | set(dir(builtins))
        for _, tree in self.each_file():
            taken = [item.name for node in imports_of(tree) for item in node.names]
            for name in bound_names(tree):
                self.assertNotIn(name, taken)
                if not name.endswith("__") and name != "_":
                    self.assertNotIn(name, barred)
                    self.assertRegex(name, r"^_?[A-Za-z][A-Za-z0-9_]*$")

    def test_beginnings_of_names(self):
        for _, tree in self.each_file():
            methods = [node.name for node in functions_of(tree) if re.match(r"^__[a-z]+__$", node.name)]
            self.assertLessEqual(set(methods), {"__init__"})
            for name in bound_names(tree):
                if name not in methods:
                    self.assertIsNone(BARRED_BEGINNINGS.search(name), name)

    def test_attributes(self):
        for _, tree in self.each_file():
            for node in ast.walk(tree):
                if isinstance(node, ast.Attribute) and isinstance(node.ctx, ast.Store):
                    self.assertNotIn(node.attr, BARRED_ATTRIBUTES)

    def test_what_goes_over_something_does_so_at_once(self):
        for _, tree in self.each_file():
            allowed = set()
            for node in ast.walk(tree):
                if isinstance(node, (ast.For, ast.comprehension)):
                    allowed.add(node.iter)
                elif isinstance(node, ast.Compare):
                    allowed.update(node.comparators)
                elif isinstance(node, ast.Call) and isinstance(node.func, ast.Name) and node.func.id in GOING_OVER:
                    allowed.update(node.args[:1] if node.func.id != "zip" else node.args)
                elif isinstance(node, ast.Call) and isinstance(node.func, ast.Name) and node.func.id == "reversed":
                    allowed.update([item for item in node.args if isinstance(item, ast.Call)
                                    and isinstance(item.func, ast.Name) and item.func.id == "range"])
            for node in ast.walk(tree):
                if isinstance(node, ast.Call) and isinstance(node.func, ast.Name) and node.func.id in ITERATORS:
                    self.assertIn(node, allowed, ast.unparse(node))

    def test_stars_stand_before_plain_things(self):
        for _, tree in self.each_file():
            for node in ast.walk(tree):
                if isinstance(node, ast.Call):
                    starred = [item.value for item in node.args if isinstance(item, ast.Starred)]
                    for item in starred:
                        self.assertIsInstance(item, (ast.Name, ast.Attribute))
                    self.assertEqual([item for item in node.keywords if item.arg is None], [])

    def test_exponents(self):
        for _, tree in self.each_file():
            for node in ast.walk(tree):
                if isinstance(node, ast.BinOp) and isinstance(node.op, ast.Pow):
                    self.assertIsInstance(node.right, ast.Constant)
                    self.assertTrue(0 <= node.right.value <= 64)

    def test_builtins(self):
        for _, tree in self.each_file():
            for node in ast.walk(tree):
                if isinstance(node, ast.Name) and node.id in dir(builtins):
                    self.assertIn(node.id, BUILTINS)

    def test_methods(self):
        own = set()
        for path in FILES:
            for node in ast.walk(parsed(path)):
                if isinstance(node, ast.ClassDef):
                    own.update([item.name for item in node.body if isinstance(item, ast.FunctionDef)])
        for _, tree in self.each_file():
            for node in ast.walk(tree):
                if isinstance(node, ast.Call) and isinstance(node.func, ast.Attribute):
                    self.assertIn(node.func.attr, METHODS | own)

    def test_barred_words(self):
        for _, tree in self.each_file():
            for node in ast.walk(tree):
                if isinstance(node, (ast.FunctionDef, ast.ClassDef, ast.Module)) and ast.get_docstring(node):
                    node.body[0].value.value = ""
            self.assertIsNone(BARRED_WORDS.search(ast.unparse(tree)))

    def test_imports(self):
        for _, tree in self.each_file():
            for node in imports_of(tree):
                self.assertEqual(node.level, 0)
                names = [item.name for item in node.names]
                if node.module in LIBRARY:
                    self.assertLessEqual(set(names), LIBRARY[node.module])
                    continue
                package, _, module = node.module.partition(".")
                self.assertEqual(package, "unseentables")
                self.assertLessEqual(set(names), set(top_names(parsed(PACKAGE / (module + ".py")))))

    def test_imports_go_in_no_circle(self):
        below = {path.stem: [node.module.rpartition(".")[2] for node in imports_of(parsed(path))] for path in FILES}
        left = {name: [other for other in others if other in below] for name, others in below.items()}
        while left:
            free = [name for name, others in left.items() if not [other for other in others if other in left]]
            self.assertTrue(free, sorted(left))
            left = {name: others for name, others in left.items() if name not in free}

    def test_every_import_is_used(self):
        for _, tree in self.each_file():
            used = {node.id for node in ast.walk(tree) if isinstance(node, ast.Name)}
            for node in imports_of(tree):
                self.assertLessEqual({item.name for item in node.names}, used)
