"""The rules of ../shared/LANGUAGE.md that can be seen in the source."""

import ast
import builtins
import pathlib
import re
import unittest

PACKAGE = pathlib.Path(__file__).resolve().parent.parent / "cardclerks"
FILES = sorted(PACKAGE.glob("*.py"))

STATEMENTS = (ast.FunctionDef, ast.ClassDef, ast.Assign, ast.AugAssign, ast.If, ast.While, ast.For, ast.Return,
              ast.Break, ast.Continue, ast.Pass, ast.Raise, ast.Try, ast.Expr, ast.ImportFrom)
NOT_USED = (ast.GeneratorExp, ast.SetComp, ast.DictComp, ast.NamedExpr, ast.Starred, ast.Div, ast.Await, ast.Yield,
            ast.YieldFrom)
OWN_NAMES = """len range enumerate zip min max sum abs sorted reversed int str bool list tuple dict set frozenset
    isinstance ord repr any all divmod Exception ValueError TypeError KeyError IndexError LookupError
    ZeroDivisionError ArithmeticError OverflowError RuntimeError NotImplementedError AttributeError
    StopIteration""".split()
METHODS = """append clear copy count endswith extend find get index insert isalnum isalpha isdigit islower isspace
    isupper items join keys ljust lower lstrip partition pop remove replace reverse rfind rjust rpartition rsplit
    rstrip setdefault split splitlines startswith strip update upper values zfill bit_length""".split()
WORDS = """type typing typing_extensions enum Enum IntEnum StrEnum Flag IntFlag Generic Protocol ABC ABCMeta
    namedtuple NamedTuple TypedDict TYPE_CHECKING abstractmethod""".split()


WALKED_AT_ONCE = ("zip", "enumerate", "reversed", "range", "items", "keys", "values")
MAY_WALK = ("list", "tuple", "dict", "sorted", "sum", "any", "all", "enumerate", "zip", "min", "max")
KEYWORDS = {"sorted": ("key", "reverse"), "min": ("key", "default"), "max": ("key", "default"), "sum": ("start",),
            "enumerate": ("start",), "zip": ("strict",)}


def called(node):
    """The name of the function or method that this calls, if it calls one."""
    if not isinstance(node, ast.Call):
        return None
    return node.func.attr if isinstance(node.func, ast.Attribute) else getattr(node.func, "id", None)


def walks(node):
    """What this walks on the spot."""
    if isinstance(node, (ast.For, ast.comprehension)):
        return [node.iter]
    return node.args[:1] if called(node) in MAY_WALK else []


def drawn_from(path):
    return [node.module.split(".")[1] for node in nodes(path) if isinstance(node, ast.ImportFrom)]


def nodes(path):
    return ast.walk(ast.parse(path.read_text(encoding="utf-8")))


def bound_names(path):
    for node in nodes(path):
        if isinstance(node, ast.Name) and isinstance(node.ctx, ast.Store):
            yield node.id
        elif isinstance(node, ast.arg):
            yield node.arg
        elif isinstance(node, (ast.FunctionDef, ast.ClassDef)):
            yield node.name


class TheSource(unittest.TestCase):
    def each_file(self):
        for path in FILES:
            with self.subTest(file=path.name):
                yield path

    def test_only_plain_files(self):
        found = [path for path in PACKAGE.iterdir() if path.name != "__pycache__"]
        self.assertEqual(sorted(found), FILES)
        self.assertIn(PACKAGE / "__init__.py", FILES)
        for path in FILES:
            self.assertRegex(path.name, r"^([a-z][a-z0-9_]*|__init__)\.py$")
            self.assertNotIn(path.stem, dir(builtins))

    def test_signs_and_sizes(self):
        for path in self.each_file():
            text = path.read_bytes().decode("ascii")
            self.assertRegex(text, r"\A[ -~\n]*\Z")
            lines = text.split("\n")
            self.assertLessEqual(len(lines), 399)
            self.assertLessEqual(max(len(line) for line in lines), 120)
            for node in nodes(path):
                if isinstance(node, ast.FunctionDef):
                    self.assertLessEqual(node.end_lineno - node.lineno + 1, 40, node.name)

    def test_words_that_stand_nowhere(self):
        for path in self.each_file():
            text = path.read_text()
            self.assertEqual([word for word in WORDS if re.search(rf"\b{word}\b", text)], [])
            self.assertNotRegex(text, "dataclass|overload|contextmanager")

    def test_imports_are_the_packages_own(self):
        for path in self.each_file():
            for node in nodes(path):
                if isinstance(node, ast.ImportFrom):
                    self.assertEqual(node.level, 0)
                    self.assertRegex(node.module, r"^cardclerks\.[a-z_]+$")
                    self.assertNotIn("*", [name.name for name in node.names])

    def test_statements_and_expressions(self):
        for path in self.each_file():
            for node in nodes(path):
                self.assertNotIsInstance(node, NOT_USED)
                if isinstance(node, ast.stmt):
                    self.assertIsInstance(node, STATEMENTS)
                if isinstance(node, (ast.For, ast.While)):
                    self.assertEqual(node.orelse, [])
                if isinstance(node, ast.Assign):
                    self.assertEqual(len(node.targets), 1)
                if isinstance(node, ast.Constant):
                    self.assertIn(type(node.value), (int, str, bool, type(None)))
                if isinstance(node, ast.FunctionDef):
                    self.assertEqual(node.decorator_list, [])
                    self.assertIsNone(node.args.vararg or node.args.kwarg)

    def test_names(self):
        for path in self.each_file():
            for name in bound_names(path):
                self.assertRegex(name, r"^([A-Za-z][A-Za-z0-9_]*|__init__)$")
                self.assertNotIn(name, dir(builtins))
            for node in nodes(path):
                if isinstance(node, ast.Name) and node.id in dir(builtins):
                    self.assertIn(node.id, OWN_NAMES)

    def test_methods(self):
        own = [name for path in FILES for name in bound_names(path)]
        for path in self.each_file():
            for node in nodes(path):
                if isinstance(node, ast.Call) and isinstance(node.func, ast.Attribute):
                    self.assertIn(node.func.attr, METHODS + own)

    def test_answers_is_written_once_in_its_file(self):
        places = [path.name for path in FILES for name in bound_names(path) if name == "answers"]
        self.assertEqual(places, ["room.py"])

    def test_no_two_files_draw_from_one_another(self):
        draws = {path.stem: drawn_from(path) for path in FILES}
        while draws:
            free = [stem for stem, names in draws.items() if not any(name in draws for name in names)]
            self.assertNotEqual(free, [], draws)
            draws = {stem: names for stem, names in draws.items() if stem not in free}

    def test_names_come_from_the_file_that_defines_them(self):
        for path in self.each_file():
            for node in nodes(path):
                if isinstance(node, ast.ImportFrom):
                    source = ast.parse((PACKAGE / f"{node.module.split('.')[1]}.py").read_text())
                    own = [getattr(top, "name", None) or top.targets[0].id for top in source.body
                           if isinstance(top, (ast.FunctionDef, ast.ClassDef, ast.Assign))]
                    self.assertEqual([name.name for name in node.names if name.name not in own or name.asname], [])

    def test_each_name_is_bound_once_at_the_top(self):
        for path in self.each_file():
            names = []
            for node in ast.parse(path.read_text()).body:
                if isinstance(node, ast.ImportFrom):
                    names += [name.name for name in node.names]
                elif isinstance(node, ast.Assign):
                    names.append(node.targets[0].id)
                elif isinstance(node, (ast.FunctionDef, ast.ClassDef)):
                    names.append(node.name)
            self.assertEqual(len(names), len(set(names)))
            inner = [arg for node in nodes(path) if isinstance(node, ast.FunctionDef)
                     for arg in [one.arg for one in node.args.args]
                     + [one.id for one in ast.walk(node) if isinstance(one, ast.Name)
                        and isinstance(one.ctx, ast.Store)]]
            self.assertEqual(sorted(set(inner) & set(names)), [])

    def test_walked_on_the_spot(self):
        for path in self.each_file():
            tree = list(nodes(path))
            walked = [id(one) for node in tree for one in walks(node)]
            for node in tree:
                if called(node) in WALKED_AT_ONCE:
                    self.assertIn(id(node), walked, ast.unparse(node))

    def test_sets_are_asked_on_the_spot(self):
        for path in self.each_file():
            tree = list(nodes(path))
            asked = [id(one) for node in tree if called(node) in ("len", "sorted") for one in node.args]
            asked += [id(one) for node in tree if isinstance(node, ast.Compare)
                      for one in [node.left, *node.comparators]]
            for node in tree:
                self.assertNotIsInstance(node, ast.Set)
                if called(node) in ("set", "frozenset"):
                    self.assertIn(id(node), asked)

    def test_keywords_and_is(self):
        for path in self.each_file():
            for node in nodes(path):
                if isinstance(node, ast.Call):
                    for keyword in node.keywords:
                        self.assertIn(keyword.arg, KEYWORDS.get(called(node), ()))
                if isinstance(node, ast.Compare) and any(isinstance(op, (ast.Is, ast.IsNot)) for op in node.ops):
                    self.assertTrue(any(isinstance(one, ast.Constant) for one in node.comparators))
                if isinstance(node, (ast.FunctionDef, ast.arg)):
                    self.assertIsNone(getattr(node, "returns", None) or getattr(node, "annotation", None))

    def test_comprehensions_have_one_for_and_at_most_one_if(self):
        for path in self.each_file():
            for node in nodes(path):
                if isinstance(node, ast.ListComp):
                    self.assertEqual(len(node.generators), 1)
                    self.assertLessEqual(len(node.generators[0].ifs), 1)
