"""Looks at the files of the package for what the rules of the language can be checked for by a machine.

It is narrower than the rules: a form of Python that the package does not need is refused, even where the rules let it.
"""

import ast
import builtins
import pathlib
import tokenize

PACKAGE = "linestrikes"
FOLDER = pathlib.Path(__file__).resolve().parent.parent / PACKAGE

BUILTINS = """len range enumerate zip min max sum abs sorted reversed int str bool list tuple dict set isinstance ord repr any
all divmod pow iter next ValueError TypeError KeyError NotImplementedError NotImplemented property classmethod staticmethod
super""".split()

SPECIAL = """__init__ __eq__ __repr__ __str__ __len__ __enter__ __exit__ __call__ __iter__ __add__ __sub__ __and__ __or__
__xor__ __iand__ __neg__ __invert__ __bool__ __contains__ __getitem__ __setitem__""".split()

METHODS = """append clear copy count endswith extend find get index insert isalnum isalpha isdigit islower isspace isupper
items join keys ljust lower lstrip partition pop remove replace reverse rfind rjust rpartition rsplit rstrip setdefault
split splitlines startswith strip update upper values zfill bit_length""".split()

BAD_NAMES = """register mro elements open input law version_info with_traceback add_note attrgetter breakpoint builtins
compile copyright credits delattr dir eval exec exit gc getattr globals hasattr help id importlib license locals
methodcaller os quit setattr type vars sys""".split()

BAD_WORDS = """type typing typing_extensions enum Enum IntEnum StrEnum Flag IntFlag Generic Protocol ABC ABCMeta
namedtuple NamedTuple TypedDict TYPE_CHECKING abstractmethod""".split()

BAD_ATTRIBUTES = """items keys values pop update append clear extend insert remove reverse setdefault sort args encode
decode hex fromhex format format_map mro as_integer_ratio bit_count conjugate from_bytes is_integer to_bytes""".split()

NODES = """Module Expr Constant ImportFrom alias ClassDef FunctionDef arguments arg Assign AugAssign Return If While For
Raise Pass Break Continue Yield With withitem Name Attribute Subscript Slice Starred Tuple List Dict ListComp DictComp
comprehension Call keyword BoolOp BinOp UnaryOp Compare IfExp And Or Not Invert USub Add Sub Mult FloorDiv Mod LShift
RShift BitAnd BitOr BitXor Eq NotEq Lt LtE Gt GtE In NotIn Is IsNot Load Store JoinedStr FormattedValue Try ExceptHandler
""".split()

AT_ONCE = "list tuple sorted sum min max any all dict enumerate zip".split()


def faults(folder=FOLDER):
    """What breaks a rule, a text each."""
    found = []
    trees = {}
    for path in sorted(folder.iterdir()):
        if path.name == "__pycache__":
            continue
        if path.suffix != ".py" or not path.stem.replace("_", "a").isalnum() or path.name != path.name.lower():
            found.append(f"{path.name}: L1, L14")
            continue
        text = path.read_text(encoding="utf-8")
        trees[path.stem] = ast.parse(text)
        found.extend(f"{path.name}:{line}: {rule}" for line, rule in text_faults(text))
        found.extend(f"{path.name}:{line}: {rule}" for line, rule in word_faults(path))
    generators = names_of_generators(trees)
    methods = {node.name for tree in trees.values() for node in ast.walk(tree) if isinstance(node, ast.FunctionDef)}
    for stem, tree in trees.items():
        for line, rule in tree_faults(tree, generators, methods):
            found.append(f"{stem}.py:{line}: {rule}")
    found.extend(import_faults(trees))
    found.extend(name_faults(trees, generators))
    return found


def text_faults(text):
    lines = text.split("\n")
    if len(lines) > 400:
        yield len(lines), "L10: a file of 400 lines"
    for number, line in enumerate(lines, 1):
        if len(line) > 120:
            yield number, "L10: a long line"
        if any(not " " <= sign <= "~" for sign in line):
            yield number, "L14: a sign that is not let"


def word_faults(path):
    """Words that stand nowhere but in comments and docstrings."""
    with open(path, "rb") as stream:
        tokens = list(tokenize.tokenize(stream.readline))
    for token in tokens:
        if token.type == tokenize.NAME and token.string in BAD_WORDS:
            yield token.start[0], f"L17: {token.string}"
        if any(word in token.string for word in ("_wall", "_WallAttr", "(type)", "Meta", "metaclass=")):
            yield token.start[0], f"L12, L17: {token.string}"


def names_of_generators(trees):
    return {node.name for tree in trees.values() for node in ast.walk(tree)
            if isinstance(node, ast.FunctionDef) and yields(node)}


def yields(function):
    return any(isinstance(node, (ast.Yield, ast.YieldFrom)) for node in ast.walk(function))


def tree_faults(tree, generators, methods):
    parents = {child: node for node in ast.walk(tree) for child in ast.iter_child_nodes(node)}
    own = {name for node in tree.body for name in bound_names(node)}
    for node in ast.walk(tree):
        line = getattr(node, "lineno", 0)
        if type(node).__name__ not in NODES:
            yield line, f"not in the subset that is used here: {type(node).__name__}"
        for rule in (*module_faults(node, tree), *value_faults(node, parents), *name_uses(node, own)):
            yield line, rule
        if isinstance(node, ast.FunctionDef):
            for rule in function_faults(node, parents):
                yield line, rule
        if isinstance(node, ast.ClassDef):
            for rule in class_faults(node):
                yield line, rule
        if isinstance(node, ast.Call):
            for rule in call_faults(node, parents, generators, methods):
                yield line, rule


def bound_names(node):
    if isinstance(node, (ast.FunctionDef, ast.ClassDef)):
        return [node.name]
    if isinstance(node, ast.ImportFrom):
        return [alias.asname or alias.name for alias in node.names]
    return [target.id for target in getattr(node, "targets", []) if isinstance(target, ast.Name)]


def module_faults(node, tree):
    if isinstance(node, ast.Module):
        for part in node.body:
            is_docstring = isinstance(part, ast.Expr) and isinstance(part.value, ast.Constant)
            if not is_docstring and not isinstance(part, (ast.ImportFrom, ast.FunctionDef, ast.ClassDef, ast.Assign)):
                yield "L3: not let at module level"
            if isinstance(part, ast.Assign) and not is_plain(part.value, functions_above(node, part)):
                yield "L3: no plain value at module level"
        names = [name for part in tree.body for name in bound_names(part)]
        if len(names) != len(set(names)):
            yield "L15: a name is bound twice at module level"


def functions_above(tree, part):
    return [one.name for one in tree.body if isinstance(one, ast.FunctionDef) and one.lineno < part.lineno]


def is_plain(value, functions):
    """Whether this is a constant, or a list, tuple or dict of such and of these functions."""
    if isinstance(value, ast.Constant):
        return True
    if isinstance(value, ast.UnaryOp):
        return isinstance(value.operand, ast.Constant)
    parts = getattr(value, "elts", None)
    if isinstance(value, ast.Dict):
        parts = [*value.keys, *value.values]
    if parts is None:
        return False
    return all(isinstance(one, ast.Name) and one.id in functions or is_plain(one, functions) for one in parts)


def value_faults(node, parents):
    if isinstance(node, ast.Constant):
        if isinstance(node.value, (float, complex, bytes)):
            yield "L7: this constant"
        is_docstring = isinstance(parents.get(node), ast.Expr)
        if isinstance(node.value, str):
            if "%" in node.value or node.value.endswith(("._", ".__")):
                yield "L27: this string"
            if not is_docstring and "type" in node.value.split():
                yield "L17: this string"
    if isinstance(node, ast.BinOp) and isinstance(node.op, ast.Pow):
        yield "L27: an exponent"
    if isinstance(node, ast.Compare) and any(isinstance(op, (ast.Is, ast.IsNot)) for op in node.ops):
        if not all(isinstance(one, ast.Constant) and one.value in (None, True, False) for one in node.comparators):
            yield "L20: is"
    if isinstance(node, (ast.For, ast.comprehension)):
        yield from loop_faults(node)


def loop_faults(node):
    """What is iterated over is not changed in the loop."""
    body = node.body if isinstance(node, ast.For) else []
    walked = {ast.dump(one) for one in ast.walk(node.iter) if isinstance(one, (ast.Name, ast.Attribute))}
    for part in body:
        for one in ast.walk(part):
            if isinstance(one, ast.Call) and isinstance(one.func, ast.Attribute):
                if one.func.attr in ("append", "pop", "extend", "insert", "remove", "clear", "update", "setdefault"):
                    if ast.dump(one.func.value) in walked:
                        yield "L23: what is iterated over is changed"


def name_uses(node, own):
    if isinstance(node, ast.Name):
        if node.id in BAD_NAMES:
            yield f"L17: {node.id}"
        if node.id.startswith("__"):
            yield f"L8: {node.id}"
        is_builtin = hasattr(builtins, node.id)
        if is_builtin and node.id not in BUILTINS:
            yield f"L8: {node.id}"
        if is_builtin and not isinstance(node.ctx, ast.Load):
            yield f"L15: {node.id} is a builtin"
    if isinstance(node, ast.arg) and (hasattr(builtins, node.arg) or node.arg in BAD_NAMES or node.arg in own):
        yield f"L15: the parameter {node.arg}"
    if isinstance(node, ast.Attribute):
        if node.attr in BAD_NAMES or node.attr.startswith("__") and node.attr != "__init__":
            yield f"L17, L28: {node.attr}"
        if isinstance(node.ctx, ast.Store) and (node.attr in BAD_ATTRIBUTES or not isinstance(node.value, ast.Name)):
            yield f"L18, L26: {node.attr}"
    if isinstance(node, ast.keyword) and node.arg is None:
        yield "two stars in a call"


def function_faults(node, parents):
    if node.end_lineno - node.lineno + 1 > 40:
        yield "L10: a long function"
    if not isinstance(parents[node], (ast.Module, ast.ClassDef)):
        yield "a nested function"
    for decorator in node.decorator_list:
        if not isinstance(decorator, ast.Name) or decorator.id not in ("property", "classmethod", "staticmethod"):
            yield "L4, L5: a decorator"
    if node.name.startswith("__") and node.name not in SPECIAL:
        yield f"L5: {node.name}"
    if node.returns or any(arg.annotation for arg in node.args.args):
        yield "L21: an annotation"
    if yields(node):
        for one in ast.walk(node):
            if isinstance(one, (ast.Try, ast.With)):
                yield "L23: a generator with try or with"
            if isinstance(one, (ast.Yield, ast.YieldFrom)) and not isinstance(parents[one], ast.Expr):
                yield "L23: a yield that is no statement"
            if isinstance(one, ast.Return) and one.value is not None:
                yield "L23: a generator that returns a value"
        if node.decorator_list or node.name.startswith("__"):
            yield "L23: no generator may stand here"
    if node.name == "__init__":
        if any(isinstance(one, ast.Return) for one in ast.walk(node)):
            yield "L28: __init__ returns"
    if node.name in ("__str__", "__repr__", "__len__", "__bool__") and not isinstance(node.body[-1], ast.Return):
        yield "L28: no return at the end"


def class_faults(node):
    names = [part.name for part in node.body if isinstance(part, ast.FunctionDef)]
    if "__getitem__" in names and "__iter__" not in names:
        yield "L5: __getitem__ without __iter__"
    if len(names) != len(set(names)):
        yield "L18: a method is defined twice"
    if node.decorator_list or node.keywords:
        yield "L5: a decorator or keyword of a class"
    for part in node.body:
        if not isinstance(part, (ast.FunctionDef, ast.Assign, ast.Expr, ast.Pass)):
            yield "L5: not let in a class"
        if isinstance(part, ast.FunctionDef) and part.name == "__iter__":
            is_plain = len(part.body) == 1 and ast.unparse(part.body[0]).startswith("return iter(self.")
            if not is_plain:
                yield "L5: an __iter__ of another form"


def call_faults(node, parents, generators, methods):
    name = node.func.id if isinstance(node.func, ast.Name) else None
    if isinstance(node.func, ast.Attribute):
        if node.func.attr not in METHODS and node.func.attr not in methods:
            yield f"L25: {node.func.attr}"
        if node.func.attr in METHODS and node.keywords:
            yield f"L25: keywords of {node.func.attr}"
        name = node.func.attr
    parent = parents[node]
    over = isinstance(parent, (ast.For, ast.comprehension)) and parent.iter is node
    within = parent.func.id if isinstance(parent, ast.Call) and isinstance(parent.func, ast.Name) else None
    if name in generators and not over and within not in AT_ONCE:
        yield f"L23: the generator {name} is not iterated at once"
    if isinstance(node.func, ast.Name) and name == "set" and within not in ("len", "sorted"):
        yield "L24: a set"
    if isinstance(node.func, ast.Name) and name in ("zip", "enumerate", "reversed", "range"):
        if not over and within not in AT_ONCE:
            yield f"L23: {name} is not iterated at once"
    if isinstance(node.func, ast.Name) and hasattr(builtins, name or ""):
        allowed = {"min": ("key", "default"), "max": ("key", "default"), "sorted": ("key", "reverse"),
                   "sum": ("start",), "enumerate": ("start",), "zip": ("strict",)}.get(name, ())
        if any(keyword.arg not in allowed for keyword in node.keywords):
            yield f"L22: keywords of {name}"
    stars = [k for k, one in enumerate(node.args) if isinstance(one, ast.Starred)]
    for k in stars:
        plain = (ast.Name, ast.Attribute, ast.Constant)
        if not isinstance(node.args[k].value, plain) or not all(isinstance(one, plain) for one in node.args[k + 1:]):
            yield "L7: a star"


def import_faults(trees):
    """Every import names the very file that defines the name, and no files import from each other."""
    needs = {}
    for stem, tree in trees.items():
        needs[stem] = []
        for node in tree.body:
            if not isinstance(node, ast.ImportFrom):
                continue
            module = (node.module or "").partition(".")
            if node.level or module[0] != PACKAGE or module[2] not in trees:
                yield f"{stem}.py: L2: {node.module}"
                continue
            needs[stem].append(module[2])
            defined = [name for part in trees[module[2]].body if not isinstance(part, ast.ImportFrom)
                       for name in bound_names(part)]
            for alias in node.names:
                if alias.name not in defined or alias.asname:
                    yield f"{stem}.py: L16: {alias.name}"
                if not uses(tree, alias.name):
                    yield f"{stem}.py: {alias.name} is not used"
    left = dict(needs)
    while left:
        free = [stem for stem, wanted in left.items() if not any(one in left for one in wanted)]
        if not free:
            yield f"L16: these files import from each other: {sorted(left)}"
            break
        left = {stem: wanted for stem, wanted in left.items() if stem not in free}


def uses(tree, name):
    return any(isinstance(node, ast.Name) and node.id == name for node in ast.walk(tree))


def name_faults(trees, generators):
    methods, attributes, functions = {}, {}, []
    for stem, tree in trees.items():
        known = {name for node in tree.body if isinstance(node, (ast.ClassDef, ast.ImportFrom)) for name in bound_names(node)}
        for node in ast.walk(tree):
            if isinstance(node, ast.FunctionDef):
                functions.append((node.name, yields(node)))
                for name in local_names(node):
                    if name in known:
                        yield f"{stem}.py:{node.lineno}: L15: {name} is a class or an import"
            if isinstance(node, ast.ClassDef):
                for part in node.body:
                    if isinstance(part, ast.FunctionDef):
                        methods.setdefault(part.name, node.name)
                for one in ast.walk(node):
                    if isinstance(one, ast.Attribute) and isinstance(one.ctx, ast.Store):
                        attributes.setdefault(one.attr, node.name)
    for name, is_generator in functions:
        if name in generators and not is_generator:
            yield f"L23: {name} is a generator elsewhere"
        if name in generators and name in METHODS:
            yield f"L23: the generator {name} has the name of a method of builtin values"
    for name in sorted(set(methods) & set(attributes)):
        yield f"L18: {name} is a method of {methods[name]} and an attribute of {attributes[name]}"


def local_names(function):
    names = [arg.arg for arg in (*function.args.args, *function.args.kwonlyargs)]
    names.extend(arg.arg for arg in (function.args.vararg, function.args.kwarg) if arg)
    names.extend(node.id for node in ast.walk(function) if isinstance(node, ast.Name) and isinstance(node.ctx, ast.Store))
    return names


if __name__ == "__main__":
    print("\n".join(faults()) or "no faults")
