"""The package's files keep to LANGUAGE.md, as far as its rules can be seen in the form of the code.

Not looked at here: L11; in part alone: L13, L15 to L19, L22 to L24 and L26 to L28.
"""

import ast
import builtins
import io
import pathlib
import re
import tokenize
import unittest

PACKAGE = "manyleaf"
FOLDER = pathlib.Path(__file__).resolve().parent.parent / PACKAGE

OWN_NAMES = set(
    "len range enumerate zip min max sum abs sorted reversed int str bool list tuple dict set frozenset isinstance"
    " ord repr any all divmod Exception ValueError TypeError KeyError IndexError LookupError ZeroDivisionError"
    " ArithmeticError OverflowError RuntimeError NotImplementedError AttributeError StopIteration object".split()
)
OWN_METHODS = set(
    "append clear copy count endswith extend find get index insert isalnum isalpha isdigit islower isspace isupper"
    " items join keys ljust lower lstrip partition pop remove replace reverse rfind rjust rpartition rsplit rstrip"
    " setdefault split splitlines startswith strip update upper values zfill bit_length".split()
)
DUNDERS = {"__init__", "__eq__", "__repr__", "__str__", "__len__"}
OUT_NAMES = set(
    "attrgetter breakpoint builtins compile copyright credits delattr dir eval exec exit gc getattr globals hasattr"
    " help id importlib license locals methodcaller os quit setattr super type vars sys".split()
)
OWN_CLASSES = {"int", "str", "bool", "list", "tuple", "dict"}
OWN_KEYS = {"len", "int", "str", "abs", "sum", "min", "max", "tuple"}
OWN_KEYWORDS = {"sorted": {"key", "reverse"}, "min": {"key", "default"}, "max": {"key", "default"}, "sum": {"start"},
                "enumerate": {"start"}, "zip": {"strict"}}
WALKED = {"zip", "enumerate", "reversed", "range"}
WALKERS = {"list", "tuple", "dict", "sorted", "sum", "any", "all", "enumerate", "zip", "min", "max"}
READERS = {"get", "items", "keys", "values", "index", "count", "copy"}
PYTHON_NAMES = {name for kind in (str, int, list, tuple, dict, set, frozenset, bytes) for name in dir(kind)}
OUT_VALUES = set("items keys values pop update append clear extend insert remove reverse setdefault sort args encode"
                 " format".split())
FREE_VALUES = set("count index title find get join lower upper split strip copy add".split())
OUT_ANYWHERE = set("register mro elements open input version_info with_traceback add_note format format_map".split())
OUT_WORDS = re.compile(
    r"\b(type|typing|typing_extensions|enum|Enum|IntEnum|StrEnum|Flag|IntFlag|Generic|Protocol|ABC|ABCMeta"
    r"|namedtuple|NamedTuple|TypedDict|TYPE_CHECKING|abstractmethod)\b|dataclass|overload|contextmanager"
)
FILE_NAME = re.compile(r"[a-z][a-z0-9_]*\.py|__init__\.py|__main__\.py")
OUT_FILES = re.compile(r"test|tests|testing|test_.*|site|conftest|sitecustomize|usercustomize")

STATEMENTS = (ast.Assign, ast.AugAssign, ast.If, ast.While, ast.For, ast.Return, ast.Break, ast.Continue, ast.Pass,
              ast.Raise, ast.Try, ast.Expr, ast.FunctionDef, ast.ClassDef, ast.ImportFrom)
EXPRESSIONS = (ast.Constant, ast.List, ast.Tuple, ast.Dict, ast.Set, ast.BinOp, ast.UnaryOp, ast.BoolOp, ast.Compare,
               ast.IfExp, ast.Call, ast.Attribute, ast.Subscript, ast.Slice, ast.ListComp, ast.JoinedStr,
               ast.FormattedValue, ast.Name, ast.Lambda)


def is_plain(node):
    if isinstance(node, ast.Constant):
        return True
    if isinstance(node, ast.UnaryOp):
        return isinstance(node.op, ast.USub) and isinstance(node.operand, ast.Constant)
    if isinstance(node, (ast.List, ast.Tuple)):
        return all(is_plain(part) for part in node.elts)
    if isinstance(node, ast.Dict):
        return all(part is not None and is_plain(part) for part in node.keys + node.values)
    return isinstance(node, ast.Name)


def is_docstring(node):
    return isinstance(node, ast.Expr) and isinstance(node.value, ast.Constant) and isinstance(node.value.value, str)


class Checker:
    """Reads the files of a package, texts by file names, and gathers (rule, file, line)."""

    def __init__(self, sources):
        self.faults = []
        self.trees = {name: ast.parse(text) for name, text in sources.items()}
        classes = [node for tree in self.trees.values() for node in tree.body if isinstance(node, ast.ClassDef)]
        self.methods = {part.name for node in classes for part in node.body if isinstance(part, ast.FunctionDef)}
        for self.file, text in sources.items():
            self.look_at_text(text)
            self.look_at_top(self.trees[self.file])
            self.look_around(self.trees[self.file])
            for node in ast.walk(self.trees[self.file]):
                self.look_at_node(node)
        self.look_for_rings()

    def fault(self, rule, line, bad=True):
        if bad:
            self.faults.append((rule, self.file, line))

    def look_at_text(self, text):
        self.fault("L1", 0, not FILE_NAME.fullmatch(self.file))
        stem = self.file[:-3]
        self.fault("L14", 0, OUT_FILES.fullmatch(stem) or stem in vars(builtins) or OUT_WORDS.fullmatch(stem))
        lines = text.split("\n")
        self.fault("L10", len(lines), len(lines) > 401)
        for number, line in enumerate(lines, 1):
            self.fault("L10", number, len(line) > 120)
            self.fault("L14", number, any(not " " <= sign <= "~" for sign in line))
            self.fault("L17", number, OUT_WORDS.search(line))
        for token in tokenize.generate_tokens(io.StringIO(text).readline):
            # From Python 3.12 on the inner texts of an f-string are tokens of their own.
            if tokenize.tok_name[token.type] in ("STRING", "FSTRING_MIDDLE"):
                rest = token.string.replace("\\\\", "")
                self.fault("L27", token.start[0], "%" in rest or re.search(r"\\[^nt'\"]", rest))

    def look_at_top(self, tree):
        bound = []
        for place, node in enumerate(tree.body):
            if isinstance(node, (ast.FunctionDef, ast.ClassDef)):
                bound.append(node.name)
            elif isinstance(node, ast.ImportFrom):
                bound += [alias.asname or alias.name for alias in node.names]
            elif isinstance(node, ast.Assign):
                self.fault("L3", node.lineno, not isinstance(node.targets[0], ast.Name) or not is_plain(node.value))
                bound += [target.id for target in node.targets if isinstance(target, ast.Name)]
            else:
                self.fault("L3", node.lineno, not (place == 0 and is_docstring(node)))
        self.fault("L15", 0, len(bound) != len(set(bound)))

    def look_at_node(self, node):
        if isinstance(node, ast.stmt):
            self.look_at_statement(node)
        if isinstance(node, ast.expr):
            self.look_at_expression(node)
        if isinstance(node, (ast.FunctionDef, ast.Lambda)):
            self.look_at_function(node)
        if isinstance(node, ast.ClassDef):
            self.look_at_class(node)
        if isinstance(node, ast.ImportFrom):
            self.look_at_import(node)
        if isinstance(node, ast.ExceptHandler):
            named = node.type is not None
            self.fault("L6", node.lineno, not named)
            python_own = named and any(part in vars(builtins) for part in re.findall(r"\w+", ast.unparse(node.type)))
            self.fault("L19", node.lineno, python_own and ast.unparse(node.type) != "KeyError")
        if isinstance(node, ast.Raise):
            self.fault("L19", node.lineno, not isinstance(node.exc, ast.Call))
        if isinstance(node, ast.comprehension):
            self.fault("L7", 0, len(node.ifs) > 1 or node.is_async)

    def look_at_statement(self, node):
        top = self.trees[self.file].body
        self.fault("L6", node.lineno, not isinstance(node, STATEMENTS))
        self.fault("L6", node.lineno, isinstance(node, (ast.For, ast.While)) and node.orelse)
        self.fault("L6", node.lineno, isinstance(node, ast.Try) and node.finalbody)
        self.fault("L6", node.lineno, isinstance(node, ast.Assign) and len(node.targets) != 1)
        self.fault("L6", node.lineno,
                   isinstance(node, ast.Assign) and isinstance(node.targets[0], (ast.Tuple, ast.List)))
        self.fault("L15", node.lineno, isinstance(node, ast.ClassDef) and node not in top)
        self.fault("L2", node.lineno, isinstance(node, ast.ImportFrom) and node not in top)
        if isinstance(node, ast.Expr):
            is_head = node is top[0] and is_docstring(node)
            self.fault("L6", node.lineno, not isinstance(node.value, ast.Call) and not is_head)

    def look_at_expression(self, node):
        line = node.lineno
        self.fault("L7", line, not isinstance(node, EXPRESSIONS))
        if isinstance(node, ast.Constant):
            kinds = (int, str, bool, type(None))
            self.fault("L7", line, not isinstance(node.value, kinds) and node.value is not Ellipsis)
        if isinstance(node, ast.ListComp):
            self.fault("L7", line, len(node.generators) != 1)
        if isinstance(node, ast.FormattedValue):
            self.fault("L7", line, not isinstance(node.value, ast.Name) or node.format_spec is not None)
        if isinstance(node, ast.BinOp):
            self.fault("L7", line, isinstance(node.op, (ast.Div, ast.MatMult)))
            if isinstance(node.op, ast.Pow):
                written = isinstance(node.right, ast.Constant) and node.right.value in range(65)
                self.fault("L27", line, not written)
        if isinstance(node, ast.Compare):
            for operator, other in zip(node.ops, node.comparators):
                alone = isinstance(other, ast.Constant) and any(other.value is one for one in (None, True, False))
                self.fault("L20", line, isinstance(operator, (ast.Is, ast.IsNot)) and not alone)
        if isinstance(node, ast.Name):
            self.look_at_name(node.id, line)
            python_own = node.id in vars(builtins)
            self.fault("L8", line, python_own and node.id not in OWN_NAMES)
            self.fault("L15", line, python_own and isinstance(node.ctx, ast.Store))
        if isinstance(node, ast.Attribute):
            self.look_at_name(node.attr, line)
        if isinstance(node, ast.Call) and isinstance(node.func, ast.Attribute):
            self.fault("L25", line, node.func.attr not in OWN_METHODS | self.methods | DUNDERS)

    def look_around(self, tree):
        """What hangs on where a thing stands."""
        self.above = {below: node for node in ast.walk(tree) for below in ast.iter_child_nodes(node)}
        top = tree.body
        self.classes = {node.name for node in top if isinstance(node, ast.ClassDef)}
        drawn = {alias.asname or alias.name for node in top if isinstance(node, ast.ImportFrom) for alias in node.names}
        self.classes |= {name for name in drawn if name[0].isupper() and not name.isupper()}
        self.kept = {node.targets[0].id for node in top
                     if isinstance(node, ast.Assign) and isinstance(node.value, (ast.List, ast.Dict))}
        for node in top:
            held = ast.walk(node.value) if isinstance(node, ast.Assign) else []
            self.fault("L15", node.lineno, sum(isinstance(part, (ast.List, ast.Dict)) for part in held) > 1)
        for node in ast.walk(tree):
            if isinstance(node, ast.Name) and isinstance(node.ctx, ast.Store) and self.above[node] not in top:
                self.fault("L15", node.lineno, node.id in self.classes | drawn)
            if isinstance(node, ast.arg):
                self.fault("L15", node.lineno, node.arg in self.classes | drawn)
                self.fault("L21", node.lineno, node.annotation)
            if isinstance(node, ast.Name) and isinstance(node.ctx, ast.Load):
                self.look_at_use(node)
            if isinstance(node, ast.Call):
                self.look_at_call(node)
            if isinstance(node, ast.Attribute):
                self.look_at_value(node)
        for number, line in enumerate(ast.unparse(tree).split("\n")):
            self.fault("L13", number, len(re.findall(r"lambda ([^:]*):", line)) > 1)

    def look_at_use(self, node):
        above = self.above[node]
        called = isinstance(above, ast.Call) and above.func is node
        in_isinstance = isinstance(above, ast.Call) and ast.unparse(above.func) == "isinstance"
        outer = self.above[above] if isinstance(above, ast.Tuple) else None
        in_isinstance |= isinstance(outer, ast.Call) and ast.unparse(outer.func) == "isinstance"
        if node.id in self.classes:
            held = isinstance(above, (ast.ExceptHandler, ast.ClassDef)) or isinstance(outer, ast.ExceptHandler)
            first = isinstance(above, ast.Attribute) and above.attr == "__init__"
            self.fault("L18", node.lineno, not (called or held or in_isinstance or first))
        elif node.id in self.kept:
            read = isinstance(above, (ast.Compare, ast.For, ast.comprehension))
            read |= isinstance(above, ast.Subscript) and isinstance(above.ctx, ast.Load) and above.value is node
            read |= isinstance(above, ast.Attribute) and above.attr in READERS
            read |= isinstance(above, ast.Call) and ast.unparse(above.func) in OWN_NAMES and not called
            self.fault("L15", node.lineno, not read)
        elif node.id in OWN_NAMES and not called and not node.id.endswith(("Error", "Exception")):
            is_key = isinstance(above, ast.keyword) and above.arg == "key" and node.id in OWN_KEYS
            self.fault("L22", node.lineno, not is_key and not (in_isinstance and node.id in OWN_CLASSES))
        self.fault("L17", node.lineno, node.id in OUT_NAMES)

    def look_at_call(self, node):
        name = ast.unparse(node.func)
        method = isinstance(node.func, ast.Attribute)
        own = name in OWN_NAMES or name in self.classes or (method and node.func.attr in OWN_METHODS)
        allowed = OWN_KEYWORDS.get(name, set())
        self.fault("L22", node.lineno, own and any(part.arg not in allowed for part in node.keywords))
        above = self.above[node]
        if name in WALKED or (method and node.func.attr in ("items", "keys", "values")):
            walked = isinstance(above, (ast.For, ast.comprehension)) and above.iter is node
            walker = ast.unparse(above.func) if isinstance(above, ast.Call) and above.args[:1] == [node] else ""
            walked |= walker in WALKERS and (walker not in ("min", "max") or len(above.args) == 1)
            self.fault("L23", node.lineno, not walked)
        if name in ("set", "frozenset"):
            around = ast.unparse(above.func) if isinstance(above, ast.Call) else ""
            self.fault("L24", node.lineno, not isinstance(above, ast.Compare) and around not in ("sorted", "len"))

    def look_at_value(self, node):
        above = self.above[node]
        called = isinstance(above, ast.Call) and above.func is node
        is_key = isinstance(above, ast.keyword) and above.arg == "key"
        if node.attr in self.methods | OWN_METHODS - FREE_VALUES:
            self.fault("L25", node.lineno, not called and not is_key)
        if isinstance(node.ctx, ast.Store):
            self.fault("L26", node.lineno, node.attr in PYTHON_NAMES - FREE_VALUES or node.attr in OUT_VALUES)

    def look_at_name(self, name, line):
        self.fault("L12", line, (name.startswith("_") and name not in DUNDERS) or not name.isascii())
        self.fault("L17", line, name in OUT_ANYWHERE)

    def look_at_function(self, node):
        given = node.args
        self.fault("L4", node.lineno, given.vararg or given.kwarg or given.kwonlyargs or given.posonlyargs)
        self.fault("L4", node.lineno, not all(is_plain(value) for value in given.defaults))
        for parameter in given.args:
            self.look_at_name(parameter.arg, node.lineno)
            self.fault("L15", node.lineno, parameter.arg in vars(builtins))
        if isinstance(node, ast.FunctionDef):
            self.look_at_name(node.name, node.lineno)
            self.fault("L4", node.lineno, node.decorator_list)
            self.fault("L21", node.lineno, node.returns)
            given_back = [part for part in ast.walk(node) if isinstance(part, ast.Return) and part.value is not None]
            self.fault("L28", node.lineno, node.name == "__init__" and given_back)
            self.fault("L10", node.lineno, node.end_lineno - node.lineno + 1 > 40)

    def look_at_class(self, node):
        self.look_at_name(node.name, node.lineno)
        self.fault("L5", node.lineno, len(node.bases) > 1 or node.keywords or node.decorator_list)
        for part in node.body:
            self.fault("L5", part.lineno, not isinstance(part, (ast.FunctionDef, ast.Pass)))
        names = [part.name for part in node.body if isinstance(part, ast.FunctionDef)]
        self.fault("L18", node.lineno, len(names) != len(set(names)))
        out = PYTHON_NAMES - OWN_METHODS - DUNDERS - {"add", "discard"}
        self.fault("L26", node.lineno, any(name in out for name in names))
        for part in ast.walk(node):
            if isinstance(part, ast.Attribute) and isinstance(part.ctx, ast.Store):
                self.fault("L18", part.lineno, part.attr in self.methods)

    def look_at_import(self, node):
        if node.module == "__future__":
            return
        package, point, stem = (node.module or "").partition(".")
        file = stem + ".py"
        self.fault("L2", node.lineno, node.level or package != PACKAGE or file not in self.trees)
        for alias in node.names:
            top = self.trees[file].body if file in self.trees else []
            defined = [part.name for part in top if isinstance(part, (ast.FunctionDef, ast.ClassDef))]
            defined += [part.targets[0].id for part in top if isinstance(part, ast.Assign)]
            self.fault("L16", node.lineno, alias.name not in defined)

    def drawn_from(self, file):
        rows = [node for node in self.trees[file].body if isinstance(node, ast.ImportFrom)]
        return {(node.module or "").partition(".")[2] + ".py" for node in rows} & set(self.trees)

    def look_for_rings(self):
        for self.file in self.trees:
            reached, fresh = set(), self.drawn_from(self.file)
            while fresh:
                reached |= fresh
                fresh = {far for near in fresh for far in self.drawn_from(near)} - reached
            self.fault("L16", 0, self.file in reached)


def faults_of(sources):
    return Checker(sources).faults


class ThePackage(unittest.TestCase):
    def test_its_files_keep_to_the_rules(self):
        sources = {path.name: path.read_text(encoding="utf-8") for path in FOLDER.glob("*.py")}
        self.assertIn("__init__.py", sources)
        self.assertEqual(faults_of(sources), [])

    def test_nothing_else_lies_in_it(self):
        others = [path.name for path in FOLDER.iterdir() if path.suffix != ".py" and path.name != "__pycache__"]
        self.assertEqual(others, [])


class TheChecker(unittest.TestCase):
    def test_what_is_outside_the_rules_is_found(self):
        samples = {
            "import sys\n": "L6", "from os import path\n": "L2", "from manyleaf.b import nothing\n": "L16",
            "x = len('a')\n": "L3", "print(1)\n": "L3", "x = 1\nx = 2\n": "L15",
            "def f(*a):\n    return a\n": "L4", "def f(a=len('')):\n    return a\n": "L4",
            "class A:\n    x = 1\n": "L5", "class A(ValueError, KeyError):\n    pass\n": "L5",
            "def f():\n    'told'\n": "L6", "def f(a):\n    x = y = a\n": "L6", "def f(a):\n    x, y = a\n": "L6",
            "def f(a):\n    assert a\n": "L6",
            "def f(a):\n    for x in a:\n        pass\n    else:\n        return 1\n": "L6",
            "def f(a):\n    try:\n        g()\n    except Exception:\n        pass\n": "L19",
            "def f(a):\n    return all(x for x in a)\n": "L7", "x = 1.5\n": "L7", "def f(a):\n    return a / 2\n": "L7",
            "def f(a):\n    return {x: 1 for x in a}\n": "L7", "def f(a):\n    return f'{a.b}'\n": "L7",
            "def f(a):\n    return bin(a)\n": "L8", "def f(a):\n    return chr(a)\n": "L8",
            "x = 1" + " " * 120 + "\n": "L10", "def f(a):\n" + "    a = 1\n" * 40: "L10", "\n" * 401: "L10",
            "def f_(a):\n    _b = a\n": "L12", "x = 'caf\xe9'\n": "L14", "\t\n": "L14",
            "def f(set):\n    return 1\n": "L15", "def f(a):\n    len = a\n": "L15", "# its type\n": "L17",
            "class A:\n    def go(self):\n        self.go = 1\n": "L18", "def f(a):\n    return a is 1\n": "L20",
            "def f(a):\n    return a.bit_count()\n": "L25", "x = '100%'\n": "L27", "x = '\\x41'\n": "L27",
            "def f(a):\n    return f'{a}%'\n": "L27",
            "def f(n):\n    return 2 ** n\n": "L27",
            "def f(a):\n    return (lambda x: x, lambda x: a)\n": "L13", "x = [[1]]\n": "L15",
            "x = [1]\n\n\ndef f():\n    return x\n": "L15", "x = []\n\n\ndef f():\n    x.append(1)\n": "L15",
            "class A:\n    pass\n\n\ndef f(A):\n    return 1\n": "L15",
            "from manyleaf.b import x\n\n\ndef f():\n    x = 2\n    return x\n": "L15",
            "def f(a):\n    return vars(a)\n": "L17",
            "class A:\n    pass\n\n\ndef f():\n    return [A]\n": "L18",
            "def f(a):\n    raise a\n": "L19",
            "def f():\n    try:\n        g()\n    except ValueError:\n        pass\n": "L19",
            "def f(a: int):\n    return a\n": "L21", "def f(a):\n    return g(len, a)\n": "L22",
            "def f(a):\n    return a.split(sep=' ')\n": "L22", "def f(a):\n    x = zip(a, a)\n    return x\n": "L23",
            "def f(a):\n    return g(range(3))\n": "L23", "def f(a):\n    x = set(a)\n    return x\n": "L24",
            "def f(a):\n    return g(a.append)\n": "L25",
            "class A:\n    def sort(self):\n        return 1\n": "L26",
            "class A:\n    def __init__(self):\n        self.keys = 1\n": "L26",
            "class A:\n    def __init__(self):\n        return None\n": "L28",
        }
        for text, rule in samples.items():
            with self.subTest(text):
                found = faults_of({"a.py": text, "b.py": "x = 1\n"})
                self.assertIn(rule, [fault[0] for fault in found])

    def test_files_that_draw_from_one_another_are_found(self):
        sources = {"a.py": "from manyleaf.b import f\n\n\ndef g():\n    return f()\n",
                   "b.py": "from manyleaf.a import g\n\n\ndef f():\n    return g()\n"}
        self.assertEqual(faults_of(sources), [("L16", "a.py", 0), ("L16", "b.py", 0)])

    def test_files_of_other_names_are_found(self):
        for name, rule in (("A.py", "L1"), ("a-b.py", "L1"), ("tests.py", "L14"), ("filter.py", "L14")):
            with self.subTest(name):
                self.assertEqual(faults_of({name: "x = 1\n"}), [(rule, name, 0)])


if __name__ == "__main__":
    unittest.main()
