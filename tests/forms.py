"""Looks at the files of the package for forms that hold of what calls what: L5 Operators, L5 Properties, L25 and L28.

What loops change of what they walk is looked at, too: tests/walks.py tells how.

As tests/language.py, it is narrower than the rules, and takes for called whatever has the name of what is called.
"""

import ast

from tests.language import FOLDER
from tests.walks import loop_faults

OPERATORS = """__eq__ __str__ __repr__ __len__ __contains__ __bool__ __getitem__ __add__ __sub__ __and__ __or__ __xor__ __neg__
__invert__""".split()
CHANGES = "append clear extend insert pop remove reverse setdefault update sort add discard".split()
MAKERS = "list dict set sorted".split()


def form_faults(folder=FOLDER):
    """What breaks one of these rules, a text each."""
    trees = {path.stem: ast.parse(path.read_text(encoding="utf-8")) for path in sorted(folder.glob("*.py"))}
    found = [f"{stem}.py:{line}: {rule}" for stem, tree in trees.items() for line, rule in base_faults(tree)]
    functions = all_functions(trees)
    found.extend(f"{stem}.py:{line}: {rule}" for stem, _, function in functions for line, rule in loop_faults(function))
    for stem, function in called_by_operators(functions):
        for line, rule in change_faults(function):
            found.append(f"{stem}.py:{line}: {rule}, in {function.name}, which an operator or a property calls")
    return found


def base_faults(tree):
    """An __init__ calls that of the class's own base alone."""
    for made in ast.walk(tree):
        if not isinstance(made, ast.ClassDef):
            continue
        bases = [base.id for base in made.bases]
        for node in ast.walk(made):
            if isinstance(node, ast.Call) and isinstance(node.func, ast.Attribute) and node.func.attr == "__init__":
                if ast.unparse(node.func.value) not in bases:
                    yield node.lineno, f"L28: __init__ of {ast.unparse(node.func.value)}, which is no base of {made.name}"
                if not node.args or ast.unparse(node.args[0]) != "self":
                    yield node.lineno, "L28: __init__ without the own object"


def all_functions(trees):
    """Triples of the file, the class or None, and the function."""
    found = []
    for stem, tree in trees.items():
        for part in tree.body:
            if isinstance(part, ast.FunctionDef):
                found.append((stem, None, part))
            if isinstance(part, ast.ClassDef):
                found.extend((stem, part.name, one) for one in part.body if isinstance(one, ast.FunctionDef))
    return found


def is_property(function):
    return any(isinstance(one, ast.Name) and one.id == "property" for one in function.decorator_list)


def called_by_operators(functions):
    """Pairs of a file and a function: the operators and properties, and all that they call, perhaps."""
    open_ones = [row for row in functions if row[2].name in OPERATORS or is_property(row[2])]
    seen = []
    while open_ones:
        row = open_ones.pop()
        if row in seen:
            continue
        seen.append(row)
        names = set()
        for node in ast.walk(row[2]):
            if isinstance(node, ast.Call) and isinstance(node.func, ast.Name):
                names.add((None, node.func.id))
                names.add((node.func.id, "__init__"))
            if isinstance(node, ast.Call) and isinstance(node.func, ast.Attribute):
                names.add(("a class", node.func.attr))
                if isinstance(node.func.value, ast.Name):
                    names.add((node.func.value.id, node.func.attr))
        for other in functions:
            _, made, function = other
            if function.name == "__init__" or made is None:
                is_called = (made, function.name) in names
            else:
                is_called = ("a class", function.name) in names
            if is_called:
                open_ones.append(other)
    return [(stem, function) for stem, _, function in seen]


def change_faults(function):
    """What the function changes that it did not surely create itself."""
    made_here, others = bindings(function)
    for node in ast.walk(function):
        if isinstance(node, ast.AugAssign):
            if not isinstance(node.op, (ast.Add, ast.Sub, ast.FloorDiv)) or not isinstance(node.target, ast.Name):
                yield node.lineno, "L5: this sign with ="
            elif isinstance(node.op, ast.Add) and not isinstance(node.value, ast.Constant):
                yield node.lineno, "L5: += of what is no literal"
        if isinstance(node, ast.Attribute) and isinstance(node.ctx, (ast.Store, ast.Del)):
            if function.name != "__init__" or ast.unparse(node.value) != "self":
                yield node.lineno, "L5: an attribute is assigned"
        changed = None
        if isinstance(node, ast.Call) and isinstance(node.func, ast.Attribute) and node.func.attr in CHANGES:
            changed = node.func.value
        if isinstance(node, ast.Subscript) and isinstance(node.ctx, (ast.Store, ast.Del)):
            changed = node.value
        if changed is not None and not (isinstance(changed, ast.Name) and changed.id in made_here - others):
            yield node.lineno, f"L5: {ast.unparse(changed)} is changed, which was perhaps not created here"


def bindings(function):
    """The local names that are assigned what is created there, and those that are bound in another way, too."""
    made_here = set()
    others = {arg.arg for arg in (*function.args.args, *function.args.kwonlyargs)}
    others |= {arg.arg for arg in (function.args.vararg, function.args.kwarg) if arg}
    plain = {}
    for node in ast.walk(function):
        if isinstance(node, ast.Assign):
            for target in node.targets:
                if isinstance(target, ast.Name):
                    plain[target] = node.value
    for node in ast.walk(function):
        if isinstance(node, ast.Name) and isinstance(node.ctx, ast.Store):
            if node in plain and is_created(plain[node]):
                made_here.add(node.id)
            else:
                others.add(node.id)
    return made_here, others


def is_created(value):
    if isinstance(value, (ast.List, ast.Dict, ast.ListComp, ast.DictComp)):
        return True
    if isinstance(value, ast.BinOp) and isinstance(value.op, ast.Mult):
        return isinstance(value.left, ast.List)
    return isinstance(value, ast.Call) and isinstance(value.func, ast.Name) and value.func.id in MAKERS
