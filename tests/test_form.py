"""Checks of the form that ../shared/LANGUAGE.md asks for, as far as they are easy to make."""

import ast
import builtins
import inspect
import importlib
import pathlib
import re
import unittest

ROOT = pathlib.Path(__file__).resolve().parent.parent
PACKAGE = ROOT / "sealedalike"
FILES = sorted(PACKAGE.rglob("*.py"))
TREES = {path: ast.parse(path.read_text(encoding="ascii")) for path in FILES}

INTERFACE = {
    "errors": {
        "SealError": (), "BadBook": ("part",), "BadThing": ("thing",), "BadRow": ("part",), "BadText": ("line",),
        "NotHad": ("paper",), "Mismatch": ("part",), "NothingToUndo": (), "NothingToRedo": (), "InvalidCommand": (),
    },
    "things": {
        "is_word": ("thing",), "is_name": ("thing",), "text_of": ("thing",), "pieces_of": ("thing",),
        "size_of": ("thing",), "names_in": ("thing",), "words_in": ("thing",), "replaced": ("thing", "name", "other"),
    },
    "books": {
        "Book": {
            "__init__": ("self", "kinds", "openings"), "is_thing": ("self", "thing"), "read_thing": ("self", "text"),
            "needed": ("self", "opening", "thing"), "__str__": ("self",), "__eq__": ("self", "other"),
            "read": ("cls", "text"),
        },
        "standard_book": (),
    },
    "rows": {
        "Row": {
            "__init__": ("self", "book", "things"), "__len__": ("self",), "__iter__": ("self",),
            "__add__": ("self", "other"), "with_thing": ("self", "thing"), "only": ("self", "places"),
            "replaced": ("self", "name", "thing"), "renamed": ("self", "pairs"), "__str__": ("self",),
            "__eq__": ("self", "other"), "read": ("cls", "book", "text"),
        },
    },
    "recipes": {
        "is_recipe": ("row", "thing"), "value_of": ("row", "recipe"), "written_size": ("recipe",),
        "recipe_text": ("recipe",), "read_recipe": ("text",),
    },
    "having": {
        "got_things": ("row",), "basis": ("row",), "is_had": ("row", "thing"), "judge": ("row", "thing"),
        "recipe_for": ("row", "thing"), "least_size": ("row", "thing"), "judge_holds": ("row", "about", "thing"),
        "had_pieces": ("row",), "has_all": ("row", "other"),
    },
    "counting": {"how_many": ("row", "words", "size"), "things_of": ("row", "words", "size")},
    "pictures": {"picture": ("row",), "boxes_of": ("row",), "shape_of": ("row", "thing")},
    "comparing": {
        "is_alike": ("one", "other"), "compare": ("one", "other"), "least_telling": ("one", "other"),
        "compare_holds": ("one", "other", "thing"), "classes": ("rows",),
    },
    "whatever": {
        "judge_name": ("row", "name"), "name_holds": ("row", "name", "thing"), "tells_nothing": ("row", "name"),
    },
    "slips": {"least_slips": ("row", "thing"), "least_shows": ("row", "thing"), "slips_apart": ("one", "other")},
    "desks": {
        "Desk": {
            "__init__": ("self", "book"), "show": ("self", "thing"), "undo": ("self",), "redo": ("self",),
            "gained": ("self",),
        },
        "Sides": {
            "__init__": ("self", "book"), "show": ("self", "thing", "other"), "undo": ("self",), "compared": ("self",),
            "told_at": ("self",),
        },
    },
    "findings": {"finding_holds": ("thing",)},
    "console": {"Console": {"__init__": ("self",), "run": ("self", "command")}},
}

BUILTINS = set(
    "len range enumerate zip min max sum abs sorted reversed int str bool list tuple dict set frozenset isinstance"
    " ord repr any all divmod pow map iter next getattr hasattr setattr super property staticmethod classmethod bytes"
    " Exception ValueError TypeError KeyError IndexError LookupError ZeroDivisionError ArithmeticError OverflowError"
    " RuntimeError NotImplementedError AttributeError StopIteration NotImplemented".split()
)
LIBRARY = {"heapq", "math", "itertools", "collections"}
NEVER = set("register mro elements open input law version_info with_traceback add_note".split())
BARRED = re.compile(
    r"\b(typing|typing_extensions|enum|Enum|IntEnum|StrEnum|Flag|IntFlag|Generic|Protocol|ABC|ABCMeta|namedtuple"
    r"|NamedTuple|TypedDict|TYPE_CHECKING|abstractmethod)\b|dataclass|overload|contextmanager|_WallAttr|\b_wall"
)
CHANGING = set("append clear extend insert pop remove reverse setdefault update sort add discard".split())
HEAPS = {"heappush", "heappop", "heapify", "heapreplace", "heappushpop"}
VIEWS = {"items", "keys", "values"}
WALKS = {"enumerate", "zip", "reversed"}
STATEMENTS = (
    ast.AsyncFunctionDef, ast.AsyncFor, ast.AsyncWith, ast.Await, ast.Global, ast.Import, ast.TryStar,
)


def arguments(function):
    return tuple(argument.arg for argument in function.args.args)


def walked(node):
    """The names and attributes that a loop over a value walks, as they stand there; a copy is none of them."""
    if isinstance(node, (ast.Name, ast.Attribute)):
        return [ast.unparse(node)]
    if isinstance(node, ast.IfExp):
        return walked(node.body) + walked(node.orelse)
    if isinstance(node, ast.BoolOp):
        return [text for value in node.values for text in walked(value)]
    if isinstance(node, ast.Call) and isinstance(node.func, ast.Name) and node.func.id in WALKS:
        return [text for value in node.args for text in walked(value)]
    if isinstance(node, ast.Call) and isinstance(node.func, ast.Attribute) and node.func.attr in VIEWS:
        return walked(node.func.value)
    return []


def assigned_pairs(target, value):
    """The pairs (target, value) that an assignment gives one by one."""
    if isinstance(target, ast.Tuple) and isinstance(value, ast.Tuple) and len(target.elts) == len(value.elts):
        return [pair for two in zip(target.elts, value.elts) for pair in assigned_pairs(*two)]
    return [(target, value)]


def spoken_alike(function, last):
    """A dict from names and attributes of a function to the sets of all that may speak of the same list.

    What is assigned behind the last line does not count.
    """
    groups = {}
    for node in ast.walk(function):
        for target in node.targets if isinstance(node, ast.Assign) and node.lineno <= last else ():
            for left, right in assigned_pairs(target, node.value):
                if isinstance(left, (ast.Name, ast.Attribute)):
                    texts = [ast.unparse(left), *walked(right)]
                    group = set().union(*[groups.get(text, {text}) for text in texts])
                    groups.update({text: group for text in group})
    return groups


def changed_by(node):
    """The names and attributes whose list or dict a single node of a tree changes, as they stand there."""
    if isinstance(node, ast.Call) and isinstance(node.func, ast.Attribute) and node.func.attr in CHANGING:
        return [ast.unparse(node.func.value)]
    if isinstance(node, ast.Call) and isinstance(node.func, ast.Name) and node.func.id in HEAPS:
        return [ast.unparse(node.args[0])]
    if isinstance(node, ast.AugAssign):
        return [ast.unparse(node.target)]
    if isinstance(node, ast.Subscript) and not isinstance(node.ctx, ast.Load):
        return [ast.unparse(node.value)]
    return []


def loops_changing_what_they_walk(tree):
    """The lines of the loops and comprehensions in which something changes that they may walk."""
    lines = []
    for function in [node for node in ast.walk(tree) if isinstance(node, ast.FunctionDef)]:
        around = [node for node in ast.walk(function) if isinstance(node, (ast.For, ast.While))]
        for loop in ast.walk(function):
            if isinstance(loop, ast.For):
                heads, body = [loop.iter], loop.body
            elif isinstance(loop, (ast.ListComp, ast.SetComp, ast.DictComp, ast.GeneratorExp)):
                heads, body = [part.iter for part in loop.generators], [loop]
            else:
                continue
            # What is assigned behind a loop reaches it only if both stand in another loop.
            last = max([loop.end_lineno, *[node.end_lineno for node in around if loop in ast.walk(node)]])
            groups = spoken_alike(function, last)
            changed = {text for part in body for node in ast.walk(part) for text in changed_by(node)}
            if any(changed & groups.get(text, {text}) for head in heads for text in walked(head)):
                lines.append(loop.lineno)
    return lines


class Form(unittest.TestCase):
    def each_node(self):
        for path, tree in TREES.items():
            for node in ast.walk(tree):
                yield path, node

    def test_files(self):
        for path in PACKAGE.rglob("*"):
            if "__pycache__" not in path.parts:
                self.assertTrue(path.is_dir() or path.suffix == ".py", path)
        for path in FILES:
            self.assertRegex(path.name, "^[a-z][a-z0-9_]*[.]py$|^__(init|main)__[.]py$")
            text = path.read_text(encoding="ascii")
            self.assertRegex(text, r"\A[ -~\n]*\Z", path)
            lines = text.split("\n")
            self.assertLessEqual(len(lines), 400, path)
            self.assertLessEqual(max(len(line) for line in lines), 120, path)
            self.assertIsNone(BARRED.search(text), path)

    def test_functions_are_short(self):
        for path, node in self.each_node():
            if isinstance(node, ast.FunctionDef):
                self.assertLessEqual(node.end_lineno - node.lineno + 1, 40, (path, node.name))

    def test_imports(self):
        for path, node in self.each_node():
            if isinstance(node, ast.ImportFrom):
                self.assertEqual(node.level, 0)
                self.assertIn(node, TREES[path].body)
                self.assertTrue(node.module.startswith("sealedalike.") or node.module in LIBRARY, (path, node.module))
                for alias in node.names:
                    self.assertIsNone(alias.asname)
                    self.assertNotEqual(alias.name, "*")
                    # Not beside a class that is iterated over and has a length.
                    self.assertNotIn(alias.name, ("product", "combinations", "permutations"))
                    if node.module not in LIBRARY:
                        imported = importlib.import_module(node.module)
                        value = getattr(imported, alias.name)
                        self.assertIn(getattr(value, "__module__", node.module), (node.module, None))

    def test_files_do_not_import_from_each_other(self):
        needs = {
            path.stem: {node.module.split(".")[-1] for node in ast.walk(tree) if isinstance(node, ast.ImportFrom)}
            for path, tree in TREES.items()
        }
        while needs:
            free = [stem for stem, wanted in needs.items() if not wanted & set(needs)]
            self.assertTrue(free, needs)
            for stem in free:
                del needs[stem]

    def test_module_level(self):
        for path, tree in TREES.items():
            for at, node in enumerate(tree.body):
                docstring = at == 0 and isinstance(node, ast.Expr) and isinstance(node.value, ast.Constant)
                right = (ast.ImportFrom, ast.FunctionDef, ast.ClassDef, ast.Assign)
                self.assertTrue(docstring or isinstance(node, right), (path, node.lineno))

    def test_statements_and_values(self):
        for path, node in self.each_node():
            place = (path, getattr(node, "lineno", 0))
            self.assertNotIsInstance(node, STATEMENTS, place)
            self.assertNotIsInstance(node, ast.Div, place)
            if isinstance(node, ast.Constant):
                self.assertNotIsInstance(node.value, (float, complex), place)
                if isinstance(node.value, str):
                    self.assertNotIn("%", node.value, place)
            if isinstance(node, ast.Call) and isinstance(node.func, ast.Name):
                if node.func.id in ("any", "all", "min", "max", "sum", "sorted"):
                    for argument in node.args:
                        self.assertNotIsInstance(argument, ast.GeneratorExp, place)
            if isinstance(node, (ast.FunctionDef, ast.ClassDef)):
                for decorator in node.decorator_list:
                    self.assertIn(getattr(decorator, "id", ""), ("classmethod", "staticmethod", "property"), place)

    def test_loops_do_not_change_what_they_walk(self):
        for path, tree in TREES.items():
            self.assertEqual(loops_changing_what_they_walk(tree), [], path)

    def test_loops_that_change_what_they_walk_are_found(self):
        ways = {
            "for x in a:\n  a.append(x)": True,
            "for x in list(a):\n  a.append(x)": False,
            "for x in a:\n  b.append(x)": False,
            "for x in a:\n  b.append(x)\n a = b": False,
            "a = b\n for x in a:\n  b.append(x)": True,
            "a = list(b)\n for x in a:\n  b.append(x)": False,
            "while a:\n  for x in a:\n   b.append(x)\n  a = b": True,
            "while a:\n  for x in list(a):\n   b.append(x)\n  a = b": False,
            "while a:\n  for x in a:\n   b.append(x)\n  a = list(b)": False,
            "while a:\n  for x in a:\n   c.append(x)\n  a = b\n  b = c": True,
            "while a:\n  for x in a:\n   c.append(x)\n  a, b = c, d": True,
            "while a:\n  for x in a:\n   b.append(x)\n  a = b if c else d": True,
            "for x in a.b:\n  for y in a.c:\n   d.append(y)\n  a.c = d": True,
            "for x in enumerate(a):\n  a[0] = 1": True,
            "for x in a.items():\n  del a[x]": True,
            "for x in a.b:\n  a.b += [x]": True,
            "for x in a.b:\n  a.c.extend([x])": False,
            "for x in a or b:\n  heappush(b, x)": True,
            "return [a.pop() for x in a]": True,
            "return [b.pop() for x in a]": False,
        }
        for rows, found in ways.items():
            tree = ast.parse(f"def tried(a, b, c, d):\n {rows}")
            self.assertEqual(loops_changing_what_they_walk(tree) != [], found, rows)

    def test_names(self):
        for path, node in self.each_node():
            place = (path, getattr(node, "lineno", 0))
            names = [getattr(node, field, None) for field in ("id", "attr", "arg", "name")]
            for name in [name for name in names if isinstance(name, str)]:
                self.assertNotIn(name, NEVER, place)
            if isinstance(node, ast.Name):
                if node.id in dir(builtins):
                    self.assertIn(node.id, BUILTINS, place)
                    self.assertIsInstance(node.ctx, ast.Load, place)
            elif isinstance(node, (ast.FunctionDef, ast.ClassDef)):
                self.assertNotIn(node.name, dir(builtins), place)
            elif isinstance(node, ast.arg):
                self.assertNotIn(node.arg, dir(builtins), place)

    def test_interface(self):
        for stem, wanted in INTERFACE.items():
            tree = TREES[PACKAGE / f"{stem}.py"]
            defined = {node.name: node for node in tree.body if isinstance(node, (ast.FunctionDef, ast.ClassDef))}
            for name, parameters in wanted.items():
                self.assertIn(name, defined)
                if isinstance(defined[name], ast.FunctionDef):
                    self.assertEqual(arguments(defined[name]), parameters, name)
                elif isinstance(parameters, dict):
                    methods = {node.name: node for node in defined[name].body if isinstance(node, ast.FunctionDef)}
                    for method, own in parameters.items():
                        self.assertEqual(arguments(methods[method]), own, (name, method))
                elif parameters:
                    module = importlib.import_module(f"sealedalike.{stem}")
                    self.assertEqual(tuple(inspect.signature(getattr(module, name)).parameters), parameters, name)
