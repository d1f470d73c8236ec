"""Every module keeps to the rules of ../shared/LANGUAGE.md, as narrowly as this package needs them."""

import ast
import io
import os
import re
import symtable
import tokenize
import unittest

PACKAGE = os.path.join(os.path.dirname(os.path.dirname(os.path.abspath(__file__))), "pleatpunch")

LIBRARY = {
    "heapq": {"heappush", "heappop", "heapify", "heapreplace", "heappushpop"},
    "math": {"gcd", "lcm", "isqrt", "comb", "perm", "factorial"},
    "itertools": {"product", "combinations", "permutations", "chain", "accumulate", "pairwise", "islice",
                  "zip_longest"},
    "collections": {"defaultdict", "deque"},
}
ERRORS = {"Exception", "ValueError", "TypeError", "KeyError", "IndexError", "LookupError", "ZeroDivisionError",
          "ArithmeticError", "OverflowError", "RuntimeError", "NotImplementedError"}
BUILTINS = ERRORS | {
    "len", "range", "enumerate", "zip", "min", "max", "sum", "abs", "sorted", "reversed", "int", "str", "bool", "list",
    "tuple", "dict", "set", "isinstance", "ord", "repr", "any", "all", "divmod", "iter", "next", "map"}
KEYWORDS = {"sorted": {"key", "reverse"}, "min": {"key", "default"}, "max": {"key", "default"}, "sum": {"start"},
            "enumerate": {"start"}, "zip": {"strict"}}
METHODS = set(
    "append clear copy count endswith extend find get index insert isalnum isalpha isdigit islower isspace isupper "
    "items join keys ljust lower lstrip partition pop remove replace reverse rfind rjust rpartition rsplit rstrip "
    "setdefault split splitlines startswith strip update upper values zfill bit_length title capitalize swapcase "
    "casefold center expandtabs removeprefix removesuffix rindex isascii isdecimal isnumeric istitle isidentifier "
    "isprintable sort add discard __init__".split())
AT_ONCE = {"zip", "enumerate", "reversed", "range", "map"}
VIEWS = {"items", "keys", "values"}
ITERATING = {"list", "tuple", "dict", "sorted", "sum", "any", "all", "enumerate", "zip", "min", "max", "len",
             "reversed"}
BARRED = {
    "register", "mro", "elements", "open", "input", "law", "version_info", "with_traceback", "add_note", "attrgetter",
    "breakpoint", "builtins", "compile", "copyright", "credits", "delattr", "dir", "eval", "exec", "exit", "gc",
    "getattr", "globals", "hasattr", "help", "id", "importlib", "license", "locals", "methodcaller", "os", "quit",
    "setattr", "super", "type", "vars", "sys", "typing", "typing_extensions", "enum", "Enum", "IntEnum", "StrEnum",
    "Flag", "IntFlag", "Generic", "Protocol", "ABC", "ABCMeta", "namedtuple", "NamedTuple", "TypedDict",
    "TYPE_CHECKING", "abstractmethod", "chr", "float", "complex", "print", "hash", "pow", "bytes", "frozenset"}
BARRED_FILES = {"test", "tests", "testing", "site", "conftest", "sitecustomize", "usercustomize"} | BUILTINS | BARRED
STATEMENTS = (
    ast.FunctionDef, ast.ClassDef, ast.Assign, ast.AugAssign, ast.If, ast.While, ast.For, ast.Return, ast.Break,
    ast.Continue, ast.Pass, ast.Raise, ast.Assert, ast.Delete, ast.Try, ast.ImportFrom, ast.Expr, ast.Match)
EXPRESSIONS = (
    ast.Constant, ast.Name, ast.Attribute, ast.Subscript, ast.Slice, ast.Call, ast.Starred, ast.keyword, ast.BinOp,
    ast.UnaryOp, ast.BoolOp, ast.Compare, ast.IfExp, ast.List, ast.Tuple, ast.Dict, ast.Set, ast.ListComp,
    ast.DictComp, ast.SetComp, ast.GeneratorExp, ast.comprehension, ast.JoinedStr, ast.FormattedValue, ast.Lambda)
PARTS = (
    ast.Module, ast.alias, ast.arguments, ast.arg, ast.ExceptHandler, ast.expr_context, ast.boolop, ast.unaryop,
    ast.cmpop, ast.Add, ast.Sub, ast.Mult, ast.FloorDiv, ast.Mod, ast.Pow, ast.LShift, ast.RShift, ast.BitOr,
    ast.BitXor, ast.BitAnd, ast.match_case, ast.MatchSequence, ast.MatchStar, ast.MatchAs, ast.MatchValue)


def sources():
    """Of each file of the package its text."""
    found = {}
    for name in sorted(os.listdir(PACKAGE)):
        if name != "__pycache__":
            with open(os.path.join(PACKAGE, name), encoding="utf-8") as file:
                found[name] = file.read()
    return found


def parents_of(tree):
    return {part: whole for whole in ast.walk(tree) for part in ast.iter_child_nodes(whole)}


def called(node):
    """The bare name that the node calls, or nothing."""
    return node.func.id if isinstance(node, ast.Call) and isinstance(node.func, ast.Name) else ""


def docstrings_of(tree):
    found = []
    for node in ast.walk(tree):
        if isinstance(node, (ast.Module, ast.ClassDef, ast.FunctionDef)) and ast.get_docstring(node) is not None:
            found.append(node.body[0].value)
    return found


def bound_at_top(tree):
    """The names that stand at the top of a file, each as often as it is bound."""
    found = []
    for row in tree.body:
        if isinstance(row, ast.ImportFrom):
            found.extend(alias.asname or alias.name for alias in row.names)
        elif isinstance(row, (ast.FunctionDef, ast.ClassDef)):
            found.append(row.name)
        elif isinstance(row, ast.Assign):
            found.extend(target.id for target in row.targets if isinstance(target, ast.Name))
    return found


def file_faults(name, text):
    """L1, L10, L14: the file's name, size and signs."""
    word = name[:-3]
    if not re.fullmatch("[a-z0-9_]+[.]py", name) or word in BARRED_FILES or word.startswith(("test_", "law_")):
        yield f"L14: file name {name}"
    if any(sign != "\n" and not " " <= sign <= "~" for sign in text):
        yield "L14: a sign"
    rows = text.split("\n")
    if len(rows) > 399 or any(len(row) > 120 for row in rows):
        yield "L10: a file or line too long"
    for token in tokenize.generate_tokens(io.StringIO(text).readline):
        if token.type == tokenize.STRING and re.search(r"\\[^nt\\'\"]", token.string):
            yield "L27: an escape"
        if token.type != tokenize.COMMENT and re.search(r"\b_wall\b|\b_WallAttr\b", token.string):
            yield "L12: a word"


def form_faults(tree):
    """L3, L4, L6, L7, L21: what stands at the top, and which kinds of statements and expressions there are."""
    docstrings = docstrings_of(tree)
    for row in tree.body:
        plain = isinstance(row, ast.Assign) and len(row.targets) == 1 and isinstance(row.targets[0], ast.Name)
        if plain:
            try:
                ast.literal_eval(row.value)
            except ValueError:
                yield f"L3: no plain value, line {row.lineno}"
        elif not isinstance(row, (ast.ImportFrom, ast.FunctionDef, ast.ClassDef)) \
                and not (isinstance(row, ast.Expr) and row.value in docstrings):
            yield f"L3: line {row.lineno}"
    for node in ast.walk(tree):
        if not isinstance(node, (*STATEMENTS, *EXPRESSIONS, *PARTS)):
            yield f"L6, L7: {type(node).__name__}"
        if isinstance(node, ast.Expr) and node.value not in docstrings and not isinstance(node.value, ast.Call):
            yield f"L6: line {node.lineno}"
        if isinstance(node, (ast.FunctionDef, ast.ClassDef)) and node.decorator_list:
            yield f"L4: a decorator, line {node.lineno}"
        if isinstance(node, ast.FunctionDef) and node.end_lineno - node.lineno >= 40:
            yield f"L10: {node.name} is too long"
        if isinstance(node, ast.Constant) and not isinstance(node.value, (int, str, type(None))):
            yield f"L7: {node.value!r}"
        if isinstance(node, ast.BinOp) and isinstance(node.op, ast.Pow) \
                and not (isinstance(node.right, ast.Constant) and 0 <= node.right.value <= 64):
            yield f"L27: an exponent, line {node.lineno}"
        if isinstance(node, ast.Constant) and isinstance(node.value, str) and node not in docstrings \
                and ("%" in node.value or node.value.endswith(("._", ".__")) or "__" in node.value):
            yield f"L27: a string, line {node.lineno}"


def import_faults(tree, others):
    """L2, L16: imports stand at the top, by full names, from the very file that defines the name, and are used."""
    ended = False
    used = {node.id for node in ast.walk(tree) if isinstance(node, ast.Name)}
    for row in tree.body:
        ended = ended or isinstance(row, (ast.FunctionDef, ast.ClassDef, ast.Assign))
        if not isinstance(row, ast.ImportFrom):
            continue
        names = [alias.name for alias in row.names]
        if ended or row.level or any(alias.asname for alias in row.names) or any(name not in used for name in names):
            yield f"L2: line {row.lineno}"
        if row.module.startswith("pleatpunch."):
            other = others.get(row.module.partition(".")[2] + ".py")
            defined = [] if other is None else [
                line.name if not isinstance(line, ast.Assign) else line.targets[0].id
                for line in ast.parse(other).body if isinstance(line, (ast.FunctionDef, ast.ClassDef, ast.Assign))]
            if any(name not in defined or name.startswith("_") for name in names):
                yield f"L16: line {row.lineno}"
        elif not set(names) <= LIBRARY.get(row.module, set()):
            yield f"L2: {row.module}"
    if sum(isinstance(node, (ast.Import, ast.ImportFrom)) for node in ast.walk(tree)) \
            != sum(isinstance(row, ast.ImportFrom) for row in tree.body):
        yield "L2: an import elsewhere"


def name_faults(tree, text):
    """L8, L12, L15, L17: which names are bound, and which are read."""
    top = bound_at_top(tree)
    for name in set(top):
        if top.count(name) > 1 or name in BUILTINS | BARRED:
            yield f"L15: {name}"
    kept = {row.name for row in tree.body if isinstance(row, ast.ClassDef)}
    for row in tree.body:
        if isinstance(row, ast.ImportFrom):
            kept |= {alias.name for alias in row.names}
    for node in ast.walk(tree):
        bound = None
        if isinstance(node, ast.arg):
            bound = node.arg
        elif isinstance(node, ast.Name) and not isinstance(node.ctx, ast.Load):
            bound = node.id
        elif isinstance(node, ast.ExceptHandler):
            bound = node.name
        if bound is not None and (bound in kept | BUILTINS | BARRED or not re.fullmatch("_?[A-Za-z][A-Za-z0-9_]*|_",
                                                                                        bound)):
            yield f"L12, L15: {bound}"
        if isinstance(node, ast.Name) and isinstance(node.ctx, ast.Load) and node.id == "_":
            yield "L12: _ is read"
        if isinstance(node, (ast.Attribute, ast.keyword)) \
                and (node.attr if isinstance(node, ast.Attribute) else node.arg) in BARRED:
            yield "L17: an attribute or a keyword"
        if isinstance(node, ast.Constant) and isinstance(node.value, str) and node not in docstrings_of(tree) \
                and set(re.findall("[A-Za-z_]+", node.value)) & {"typing", "enum", "dataclass", "namedtuple"}:
            yield "L17: a word in a string"
    scopes = [symtable.symtable(text, "file", "exec")]
    while scopes:
        scope = scopes.pop()
        scopes.extend(scope.get_children())
        for symbol in scope.get_symbols():
            if symbol.is_referenced() and symbol.is_global() and symbol.get_name() not in [*top, *BUILTINS]:
                yield f"L8: {symbol.get_name()}"


def call_faults(tree, methods):
    """L18, L19, L20, L22, L25: what is called and raised, with which keywords; is."""
    own = [name for name in bound_at_top(tree) if name not in BUILTINS]
    for node in ast.walk(tree):
        if isinstance(node, ast.Call):
            keywords = {keyword.arg for keyword in node.keywords}
            if called(node) in BUILTINS and not keywords <= KEYWORDS.get(called(node), set()):
                yield f"L22: line {node.lineno}"
            if isinstance(node.func, ast.Attribute) \
                    and (node.func.attr not in METHODS | methods or keywords and node.func.attr in METHODS):
                yield f"L25: {node.func.attr}"
            if not isinstance(node.func, (ast.Name, ast.Attribute)):
                yield f"L7: a call, line {node.lineno}"
            if isinstance(node.func, ast.Attribute) and node.func.attr == "__init__" \
                    and not (isinstance(node.func.value, ast.Name) and node.func.value.id in ERRORS):
                yield f"L28: line {node.lineno}"
        if isinstance(node, ast.Raise) and node.exc is not None and (called(node.exc) not in own or node.cause):
            yield f"L19: line {node.lineno}"
        if isinstance(node, ast.ExceptHandler) and not (isinstance(node.type, ast.Name)
                                                        and node.type.id in {*own, "KeyError", "ZeroDivisionError"}):
            yield f"L19: line {node.lineno}"
        if isinstance(node, ast.Compare):
            for sign, other in zip(node.ops, node.comparators):
                constant = isinstance(other, ast.Constant) and other.value in (None, True, False)
                if isinstance(sign, (ast.Is, ast.IsNot)) and not constant:
                    yield f"L20: line {node.lineno}"


def own_methods(others):
    """The names of the methods that the classes of the package define, but those of double underscores."""
    return {row.name for text in others.values() for node in ast.walk(ast.parse(text)) if isinstance(node, ast.ClassDef)
            for row in node.body if isinstance(row, ast.FunctionDef) and not row.name.startswith("__")}


def captures_of(part):
    return [node.name for node in ast.walk(part) if isinstance(node, (ast.MatchAs, ast.MatchStar)) and node.name]


def match_faults(tree):
    """L6: patterns of literals and names alone, the one that takes everything last; names read in their own case."""
    for function in ast.walk(tree):
        if not isinstance(function, ast.FunctionDef):
            continue
        cases = [case for node in ast.walk(function) if isinstance(node, ast.Match) for case in node.cases]
        captured = {name for case in cases for name in captures_of(case.pattern)}
        inside = [node for case in cases for node in ast.walk(case)]
        bound = {node.id for node in ast.walk(function)
                 if isinstance(node, ast.Name) and not isinstance(node.ctx, ast.Load)}
        bound |= {argument.arg for argument in function.args.args}
        if captured & (bound | BUILTINS | BARRED):
            yield f"L6: a captured name in {function.name}"
        for node in ast.walk(function):
            if isinstance(node, ast.Name) and node.id in captured and node not in inside:
                yield f"L6: {node.id} is read outside of its case, line {node.lineno}"
        for case in cases:
            names = captures_of(case.pattern)
            read = {node.id for node in ast.walk(case) if isinstance(node, ast.Name)}
            if len(set(names)) < len(names) or read & captured - set(names):
                yield f"L6: a name of another case in {function.name}"
            if case.guard is not None and any(isinstance(node, ast.Call) for node in ast.walk(case.guard)):
                yield f"L6: a call in a guard in {function.name}"
            for node in ast.walk(case.pattern):
                if isinstance(node, ast.MatchValue) and not isinstance(node.value, ast.Constant):
                    yield f"L6: a pattern, line {node.lineno}"
    for node in ast.walk(tree):
        if isinstance(node, ast.Match):
            everything = [isinstance(case.pattern, ast.MatchAs) and case.pattern.pattern is None and case.guard is None
                          for case in node.cases]
            if any(everything[:-1]):
                yield f"L6: a case behind the one that takes everything, line {node.lineno}"


def iteration_faults(tree):
    """L7, L23, L24: views, ranges and the like are iterated at once, sets are but asked."""
    parents = parents_of(tree)
    for node in ast.walk(tree):
        whole = parents.get(node)
        heads = isinstance(whole, (ast.For, ast.comprehension)) and whole.iter is node
        view = isinstance(node, ast.Call) and isinstance(node.func, ast.Attribute) and node.func.attr in VIEWS
        if (called(node) in AT_ONCE or view) and not heads and called(whole) not in ITERATING \
                and not (called(node) == "range" and isinstance(whole, ast.Compare)):
            yield f"L23: line {node.lineno}"
        if isinstance(node, ast.GeneratorExp) and called(whole) not in (ITERATING | {"next"}) - {"len", "enumerate"}:
            yield f"L7: a generator expression, line {node.lineno}"
        if isinstance(node, (ast.Set, ast.SetComp)) or called(node) == "set":
            stored = isinstance(whole, ast.Assign) and whole.value is node and isinstance(whole.targets[0], ast.Name)
            asked = isinstance(whole, ast.Compare) or called(whole) in ("sorted", "len")
            if not stored and not asked:
                yield f"L24: line {node.lineno}"
            if stored:
                yield from stored_set_faults(whole, parents)


def stored_set_faults(row, parents):
    """L24: a set in a local variable is assigned once and only asked, added to, measured or sorted."""
    function = parents[row]
    while function in parents and not isinstance(function, ast.FunctionDef):
        function = parents[function]
    for node in ast.walk(function):
        if not isinstance(node, ast.Name) or node.id != row.targets[0].id or node is row.targets[0]:
            continue
        whole = parents[node]
        asked = isinstance(whole, ast.Compare) and whole.left is not node \
            and isinstance(whole.ops[whole.comparators.index(node)], (ast.In, ast.NotIn))
        changed = isinstance(whole, ast.Attribute) and whole.attr in ("add", "discard")
        tested = isinstance(whole, (ast.If, ast.While, ast.UnaryOp)) and not isinstance(node.ctx, ast.Store)
        if not asked and not changed and not tested and called(whole) not in ("len", "sorted"):
            yield f"L24: the set {node.id}, line {node.lineno}"
        around = whole
        while around in parents and around is not function:
            if isinstance(around, (ast.Lambda, ast.FunctionDef, ast.GeneratorExp)):
                yield f"L24: the set {node.id} in a nested function, line {node.lineno}"
            around = parents[around]


def changing_faults(tree):
    """L15, L23: what a loop goes over is not changed in it, nor is a list or dict at the top of a file."""
    kept = {row.targets[0].id for row in tree.body if isinstance(row, ast.Assign)
            and isinstance(row.value, (ast.List, ast.Dict))}
    for node in ast.walk(tree):
        if isinstance(node, ast.For):
            over = {ast.dump(part) for part in ast.walk(node.iter) if isinstance(part, (ast.Name, ast.Attribute))}
            for row in node.body:
                for part in ast.walk(row):
                    if changed_by(part) in over:
                        yield f"L23: line {part.lineno}"
        target = changed_by(node)
        if target is not None and any(target == ast.dump(ast.Name(name, ast.Load())) for name in kept):
            yield f"L15: line {node.lineno}"


def changed_by(node):
    """What the node changes, as a dump: by a method that changes, by an item, or by a sum in place."""
    changing = {"append", "clear", "extend", "insert", "pop", "remove", "reverse", "setdefault", "sort", "update"}
    if isinstance(node, ast.Call) and isinstance(node.func, ast.Attribute) and node.func.attr in changing:
        return ast.dump(node.func.value)
    if isinstance(node, ast.Subscript) and not isinstance(node.ctx, ast.Load):
        return ast.dump(node.value)
    if isinstance(node, ast.AugAssign) and isinstance(node.target, ast.Name):
        return ast.dump(ast.Name(node.target.id, ast.Load()))
    return None


def class_faults(tree, others):
    """L4, L5, L18, L26: what stands in classes, what their methods and attributes are called, and default values."""
    stored = {node.attr for text in others.values() for node in ast.walk(ast.parse(text))
              if isinstance(node, ast.Attribute) and isinstance(node.ctx, ast.Store)}
    for node in ast.walk(tree):
        if isinstance(node, ast.ClassDef):
            names = [row.name for row in node.body if isinstance(row, ast.FunctionDef)]
            if node not in tree.body or len(names) != len(set(names)) or node.keywords or len(node.bases) > 1:
                yield f"L5: {node.name}"
            if any(not isinstance(row, ast.FunctionDef) and not isinstance(row, ast.Expr) for row in node.body):
                yield f"L5: a row of {node.name}"
            if any(isinstance(base, ast.Name) and base.id in ("StopIteration", "AttributeError")
                   for base in node.bases):
                yield f"L18: {node.name}"
            if set(names) & {part.attr for part in ast.walk(node)
                             if isinstance(part, ast.Attribute) and isinstance(part.ctx, ast.Store)}:
                yield f"L18: a method and an attribute of {node.name}"
        if isinstance(node, ast.FunctionDef) and node.name.startswith("__") and node.name != "__init__":
            yield f"L5: {node.name}"
        if isinstance(node, ast.FunctionDef) and node.name == "__init__" \
                and any(isinstance(part, ast.Return) for part in ast.walk(node)):
            yield "L28: __init__ returns"
        if isinstance(node, ast.Attribute) and isinstance(node.ctx, ast.Load) \
                and node.attr not in stored | METHODS | own_methods(others):
            yield f"L18: {node.attr} is no attribute"
        if isinstance(node, ast.Attribute) and not isinstance(node.ctx, ast.Load) \
                and (node.attr in METHODS | {"args", "encode", "decode", "hex", "format"}
                     or not isinstance(node.value, ast.Name)
                     or not re.fullmatch("_?[a-z][a-z0-9_]*", node.attr)):
            yield f"L18, L26: the attribute {node.attr}"
        if isinstance(node, ast.arguments):
            for value in [*node.defaults, *[value for value in node.kw_defaults if value]]:
                if not isinstance(value, ast.Constant):
                    yield "L4: a default value"


def faults_of(name, text, others):
    tree = ast.parse(text)
    return [
        *file_faults(name, text), *form_faults(tree), *import_faults(tree, others), *name_faults(tree, text),
        *call_faults(tree, own_methods({**others, name: text})), *match_faults(tree), *iteration_faults(tree),
        *changing_faults(tree), *class_faults(tree, {**others, name: text})]


# A row of each rule that the look must find, in a file of its own.
BROKEN = [
    ("L2", "import math\n"), ("L2", "from math import sqrt\nA = 1\n\n\ndef f():\n    return sqrt(4)\n"),
    ("L2", "from random import random\n\n\ndef f():\n    return random()\n"),
    ("L2", "def f():\n    from math import comb\n    return comb(4, 2)\n"), ("L2", "from math import comb\n"),
    ("L16", "from pleatpunch.punches import comb\n\n\ndef f():\n    return comb(4, 2)\n"),
    ("L16", "from pleatpunch.strips import _cell\n\n\ndef f():\n    return _cell('1')\n"),
    ("L3", "A = len([1])\n"), ("L3", "if True:\n    A = 1\n"), ("L3", "A, B = 1, 2\n"),
    ("L4", "@staticmethod\ndef f():\n    return 1\n"), ("L4", "def f(a=[]):\n    return a\n"),
    ("L6", "def f():\n    global A\n    A = 1\n"), ("L6", "async def f():\n    return 1\n"),
    ("L6", "def f(a):\n    a\n"), ("L7", "def f(a):\n    return a / 2\n"), ("L7", "A = 1.5\n"),
    ("L7", "def f(a):\n    b = (x for x in a)\n    return list(b)\n"),
    ("L8", "def f(a):\n    return hash(a)\n"), ("L8", "def f(a):\n    return round(a)\n"),
    ("L8", "def f(a):\n    return unknown + a\n"), ("L10", "# " + "x" * 120 + "\n"),
    ("L10", "def f():\n" + "    pass\n" * 40), ("L12", "def f(a):\n    for _ in a:\n        return _\n"),
    ("L14", "# \u00e4\n"), ("L14", "# \t\n"), ("L15", "A = 1\nA = 2\n"),
    ("L15", "def f(max):\n    return max\n"), ("L15", "def f():\n    len = 1\n    return len\n"),
    ("L15", "A = [1]\n\n\ndef f():\n    A.append(2)\n"), ("L15", "A = {}\n\n\ndef f():\n    A[1] = 2\n"),
    ("L17", "def f(a):\n    return a.mro\n"), ("L19", "def f(a):\n    raise a\n"),
    ("L19", "def f():\n    try:\n        return 1\n    except Exception:\n        return 2\n"),
    ("L20", "def f(a, b):\n    return a is b\n"), ("L22", "def f(a):\n    return int(a, base=2)\n"),
    ("L23", "def f(a):\n    b = zip(a, a)\n    return b\n"), ("L23", "def f(a):\n    return a.items()\n"),
    ("L23", "def f(a):\n    for x in a:\n        a.append(x)\n"),
    ("L23", "def f(a):\n    for x in list(enumerate(a)):\n        a[0] = x\n"),
    ("L24", "def f(a):\n    for x in set(a):\n        return x\n"), ("L24", "def f(a):\n    return set(a)\n"),
    ("L24", "def f(a):\n    b = set(a)\n    return b\n"), ("L24", "def f(a):\n    b = set(a)\n    return list(b)\n"),
    ("L24", "def f(a):\n    b = set(a)\n    b |= {1}\n"), ("L24", "def f(a):\n    b = {1}\n    return [x for x in b]\n"),
    ("L25", "def f(a):\n    return a.format(1)\n"), ("L25", "def f(a):\n    return a.encode()\n"),
    ("L27", "def f(a):\n    return a ** a\n"), ("L27", "A = 'x%s'\n"), ("L27", "A = '\\x41'\n"),
    ("L5", "class A:\n    def __hash__(self):\n        return 1\n"), ("L5", "class A:\n    a = [1]\n"),
    ("L5", "def f():\n    class A:\n        pass\n    return A()\n"),
    ("L18", "class A:\n    def __init__(self):\n        self.f = 1\n\n    def f(self):\n        return 1\n"),
    ("L18", "def f(a):\n    return a.nowhere\n"), ("L18", "def f(a):\n    a.b.c = 1\n"),
    ("L26", "class A:\n    def __init__(self):\n        self.items = 1\n"),
    ("L28", "class A:\n    def __init__(self):\n        return\n"),
    ("L6", "def f(a):\n    match a:\n        case b:\n            pass\n    return b\n"),
    ("L6", "def f(a):\n    match a:\n        case [1, a]:\n            return a\n"),
    ("L6", "def f(a):\n    match a:\n        case [max]:\n            return max\n"),
    ("L6", "def f(a):\n    match a:\n        case [b]:\n            pass\n        case [c]:\n            return b\n"),
    ("L6", "def f(a):\n    match a:\n        case [b] if len(b):\n            return b\n"),
    ("L6", "def f(a):\n    match a:\n        case {1: b}:\n            return b\n"),
    ("L6", "def f(a):\n    match a:\n        case a.b:\n            return 1\n"),
    ("L25", "def f(a):\n    return a.nowhere()\n"), ("L25", "def f(a):\n    return a.split(sep=' ')\n"),
    ("L23", "def g(a):\n    return a\n\n\ndef f(a):\n    return g(range(a))\n"),
]


class LanguageTest(unittest.TestCase):
    def test_every_file_keeps_to_the_rules(self):
        found = sources()
        self.assertIn("__init__.py", found)
        self.assertLessEqual(len(found), 100)
        for name, text in found.items():
            self.assertEqual(faults_of(name, text, found), [], name)

    def test_no_file_imports_another_one_that_imports_it(self):
        found = sources()
        imports = {name: {row.module.partition(".")[2] + ".py" for row in ast.parse(text).body
                          if isinstance(row, ast.ImportFrom) and row.module.startswith("pleatpunch.")}
                   for name, text in found.items()}
        while imports:
            free = [name for name, needed in imports.items() if not needed & set(imports)]
            self.assertNotEqual(free, [], imports)
            for name in free:
                del imports[name]

    def test_the_look_finds_what_breaks_a_rule(self):
        found = sources()
        for rule, text in BROKEN:
            told = faults_of("broken.py", text, found)
            self.assertTrue(any(rule in fault.partition(":")[0].split(", ") for fault in told), (rule, text, told))
        for name in ("Test.py", "test_x.py", "tests.py", "len.py", "x.txt"):
            self.assertTrue(faults_of(name, "A = 1\n", found))
        self.assertEqual(faults_of("fine.py", "A = 1\n\n\ndef f(a=1):\n    return a + A\n", found), [])


if __name__ == "__main__":
    unittest.main()
