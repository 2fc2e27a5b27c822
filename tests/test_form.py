"""Checks of the form that ../shared/LANGUAGE.md asks for, as far as they are easy to make."""

import ast
import builtins
import inspect
import importlib
import pathlib
import re
import unittest

ROOT = pathlib.Path(__file__).resolve().parent.parent
PACKAGE = ROOT / "sealedalike"
FILES = sorted(PACKAGE.rglob("*.py"))
TREES = {path: ast.parse(path.read_text(encoding="ascii")) for path in FILES}

INTERFACE = {
    "errors": {
        "SealError": (), "BadBook": ("part",), "BadThing": ("thing",), "BadRow": ("part",), "BadText": ("line",),
        "NotHad": ("paper",), "Mismatch": ("part",), "NothingToUndo": (), "NothingToRedo": (), "InvalidCommand": (),
    },
    "things": {
        "is_word": ("thing",), "is_name": ("thing",), "text_of": ("thing",), "pieces_of": ("thing",),
        "size_of": ("thing",), "names_in": ("thing",), "words_in": ("thing",), "replaced": ("thing", "name", "other"),
    },
    "books": {
        "Book": {
            "__init__": ("self", "kinds", "openings"), "is_thing": ("self", "thing"), "read_thing": ("self", "text"),
            "needed": ("self", "opening", "thing"), "__str__": ("self",), "__eq__": ("self", "other"),
            "read": ("cls", "text"),
        },
        "standard_book": (),
    },
    "rows": {
        "Row": {
            "__init__": ("self", "book", "things"), "__len__": ("self",), "__iter__": ("self",),
            "__add__": ("self", "other"), "with_thing": ("self", "thing"), "only": ("self", "places"),
            "replaced": ("self", "name", "thing"), "renamed": ("self", "pairs"), "__str__": ("self",),
            "__eq__": ("self", "other"), "read": ("cls", "book", "text"),
        },
    },
    "recipes": {
        "is_recipe": ("row", "thing"), "value_of": ("row", "recipe"), "written_size": ("recipe",),
        "recipe_text": ("recipe",), "read_recipe": ("text",),
    },
    "having": {
        "got_things": ("row",), "basis": ("row",), "is_had": ("row", "thing"), "judge": ("row", "thing"),
        "recipe_for": ("row", "thing"), "least_size": ("row", "thing"), "judge_holds": ("row", "about", "thing"),
        "had_pieces": ("row",), "has_all": ("row", "other"),
    },
    "counting": {"how_many": ("row", "words", "size"), "things_of": ("row", "words", "size")},
    "pictures": {"picture": ("row",), "boxes_of": ("row",), "shape_of": ("row", "thing")},
    "comparing": {
        "is_alike": ("one", "other"), "compare": ("one", "other"), "least_telling": ("one", "other"),
        "compare_holds": ("one", "other", "thing"), "classes": ("rows",),
    },
    "whatever": {
        "judge_name": ("row", "name"), "name_holds": ("row", "name", "thing"), "tells_nothing": ("row", "name"),
    },
    "slips": {"least_slips": ("row", "thing"), "least_shows": ("row", "thing"), "slips_apart": ("one", "other")},
    "desks": {
        "Desk": {
            "__init__": ("self", "book"), "show": ("self", "thing"), "undo": ("self",), "redo": ("self",),
            "gained": ("self",),
        },
        "Sides": {
            "__init__": ("self", "book"), "show": ("self", "thing", "other"), "undo": ("self",), "compared": ("self",),
            "told_at": ("self",),
        },
    },
    "findings": {"finding_holds": ("thing",)},
    "console": {"Console": {"__init__": ("self",), "run": ("self", "command")}},
}

BUILTINS = set(
    "len range enumerate zip min max sum abs sorted reversed int str bool list tuple dict set frozenset isinstance"
    " ord repr any all divmod pow map iter next getattr hasattr setattr super property staticmethod classmethod bytes"
    " Exception ValueError TypeError KeyError IndexError LookupError ZeroDivisionError ArithmeticError OverflowError"
    " RuntimeError NotImplementedError AttributeError StopIteration NotImplemented".split()
)
LIBRARY = {"heapq", "math", "itertools", "collections"}
NEVER = set("register mro elements open input law version_info with_traceback add_note".split())
BARRED = re.compile(
    r"\b(typing|typing_extensions|enum|Enum|IntEnum|StrEnum|Flag|IntFlag|Generic|Protocol|ABC|ABCMeta|namedtuple"
    r"|NamedTuple|TypedDict|TYPE_CHECKING|abstractmethod)\b|dataclass|overload|contextmanager|_WallAttr|\b_wall"
)
STATEMENTS = (
    ast.AsyncFunctionDef, ast.AsyncFor, ast.AsyncWith, ast.Await, ast.Global, ast.Import, ast.TryStar,
)


def arguments(function):
    return tuple(argument.arg for argument in function.args.args)


class Form(unittest.TestCase):
    def each_node(self):
        for path, tree in TREES.items():
            for node in ast.walk(tree):
                yield path, node

    def test_files(self):
        for path in PACKAGE.rglob("*"):
            if "__pycache__" not in path.parts:
                self.assertTrue(path.is_dir() or path.suffix == ".py", path)
        for path in FILES:
            self.assertRegex(path.name, "^[a-z][a-z0-9_]*[.]py$|^__(init|main)__[.]py$")
            text = path.read_text(encoding="ascii")
            self.assertRegex(text, r"\A[ -~\n]*\Z", path)
            lines = text.split("\n")
            self.assertLessEqual(len(lines), 400, path)
            self.assertLessEqual(max(len(line) for line in lines), 120, path)
            self.assertIsNone(BARRED.search(text), path)

    def test_functions_are_short(self):
        for path, node in self.each_node():
            if isinstance(node, ast.FunctionDef):
                self.assertLessEqual(node.end_lineno - node.lineno + 1, 40, (path, node.name))

    def test_imports(self):
        for path, node in self.each_node():
            if isinstance(node, ast.ImportFrom):
                self.assertEqual(node.level, 0)
                self.assertIn(node, TREES[path].body)
                self.assertTrue(node.module.startswith("sealedalike.") or node.module in LIBRARY, (path, node.module))
                for alias in node.names:
                    self.assertIsNone(alias.asname)
                    self.assertNotEqual(alias.name, "*")
                    # Not beside a class that is iterated over and has a length.
                    self.assertNotIn(alias.name, ("product", "combinations", "permutations"))
                    if node.module not in LIBRARY:
                        imported = importlib.import_module(node.module)
                        value = getattr(imported, alias.name)
                        self.assertIn(getattr(value, "__module__", node.module), (node.module, None))

    def test_files_do_not_import_from_each_other(self):
        needs = {
            path.stem: {node.module.split(".")[-1] for node in ast.walk(tree) if isinstance(node, ast.ImportFrom)}
            for path, tree in TREES.items()
        }
        while needs:
            free = [stem for stem, wanted in needs.items() if not wanted & set(needs)]
            self.assertTrue(free, needs)
            for stem in free:
                del needs[stem]

    def test_module_level(self):
        for path, tree in TREES.items():
            for at, node in enumerate(tree.body):
                docstring = at == 0 and isinstance(node, ast.Expr) and isinstance(node.value, ast.Constant)
                right = (ast.ImportFrom, ast.FunctionDef, ast.ClassDef, ast.Assign)
                self.assertTrue(docstring or isinstance(node, right), (path, node.lineno))

    def test_statements_and_values(self):
        for path, node in self.each_node():
            place = (path, getattr(node, "lineno", 0))
            self.assertNotIsInstance(node, STATEMENTS, place)
            self.assertNotIsInstance(node, ast.Div, place)
            if isinstance(node, ast.Constant):
                self.assertNotIsInstance(node.value, (float, complex), place)
                if isinstance(node.value, str):
                    self.assertNotIn("%", node.value, place)
            if isinstance(node, ast.Call) and isinstance(node.func, ast.Name):
                if node.func.id in ("any", "all", "min", "max", "sum", "sorted"):
                    for argument in node.args:
                        self.assertNotIsInstance(argument, ast.GeneratorExp, place)
            if isinstance(node, (ast.FunctionDef, ast.ClassDef)):
                for decorator in node.decorator_list:
                    self.assertIn(getattr(decorator, "id", ""), ("classmethod", "staticmethod", "property"), place)

    def test_names(self):
        for path, node in self.each_node():
            place = (path, getattr(node, "lineno", 0))
            names = [getattr(node, field, None) for field in ("id", "attr", "arg", "name")]
            for name in [name for name in names if isinstance(name, str)]:
                self.assertNotIn(name, NEVER, place)
            if isinstance(node, ast.Name):
                if node.id in dir(builtins):
                    self.assertIn(node.id, BUILTINS, place)
                    self.assertIsInstance(node.ctx, ast.Load, place)
            elif isinstance(node, (ast.FunctionDef, ast.ClassDef)):
                self.assertNotIn(node.name, dir(builtins), place)
            elif isinstance(node, ast.arg):
                self.assertNotIn(node.arg, dir(builtins), place)

    def test_interface(self):
        for stem, wanted in INTERFACE.items():
            tree = TREES[PACKAGE / f"{stem}.py"]
            defined = {node.name: node for node in tree.body if isinstance(node, (ast.FunctionDef, ast.ClassDef))}
            for name, parameters in wanted.items():
                self.assertIn(name, defined)
                if isinstance(defined[name], ast.FunctionDef):
                    self.assertEqual(arguments(defined[name]), parameters, name)
                elif isinstance(parameters, dict):
                    methods = {node.name: node for node in defined[name].body if isinstance(node, ast.FunctionDef)}
                    for method, own in parameters.items():
                        self.assertEqual(arguments(methods[method]), own, (name, method))
                elif parameters:
                    module = importlib.import_module(f"sealedalike.{stem}")
                    self.assertEqual(tuple(inspect.signature(getattr(module, name)).parameters), parameters, name)
