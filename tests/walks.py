"""Looks for loops of a function that change what they walk, by whatever name: L5 Iteration and L23.

Two names of a function are taken for names of one thing if one is given to the other anywhere in it: plainly, by a
choice, or as a field or an item of something. So more is found than a run would show. What a call returns is taken for
new.
"""

import ast

CHANGES = "append clear extend insert pop remove reverse setdefault update sort add discard".split()
# Which argument of these methods is an item from then on.
PUTS = {"append": 0, "insert": 1, "setdefault": 1}
TAKES = "get pop setdefault".split()
VIEWS = "items keys values".split()
COPIES = "list tuple sorted".split()
WALKERS = "enumerate reversed zip".split()
COMPREHENSIONS = (ast.ListComp, ast.SetComp, ast.GeneratorExp, ast.DictComp)


def loop_faults(function):
    """What the loops and comprehensions of a function change of what they walk."""
    names = Names()
    # What is joined late may make one thing of what two earlier nodes told, so all is read until nothing is joined.
    many = None
    while many != names.joins:
        many = names.joins
        for node in ast.walk(function):
            names.read(node)
    for node in ast.walk(function):
        if isinstance(node, ast.For):
            yield from changes_within(names, [node.iter], node.body)
        if isinstance(node, COMPREHENSIONS):
            results = [node.key, node.value] if isinstance(node, ast.DictComp) else [node.elt]
            tests = [test for one in node.generators for test in one.ifs]
            yield from changes_within(names, [one.iter for one in node.generators], [*results, *tests])


def changes_within(names, iterated, parts):
    """What is changed in the parts of a loop that walks these."""
    walked = {names.root(key) for one in iterated for key in names.walked(one)}
    for part in parts:
        for node in ast.walk(part):
            for changed in changed_by(node):
                if any(names.root(key) in walked for key in names.keys(changed)):
                    yield node.lineno, f"L23: {ast.unparse(changed)} is changed where it is walked"


def changed_by(node):
    """What a call, a target or a sign with = changes."""
    if isinstance(node, ast.Call) and isinstance(node.func, ast.Attribute) and node.func.attr in CHANGES:
        return [node.func.value]
    if isinstance(node, ast.Subscript) and isinstance(node.ctx, (ast.Store, ast.Del)):
        return [node.value]
    return [node.target] if isinstance(node, ast.AugAssign) else []


def called_name(value):
    """The name of the function or the method that is called; None for what is no such call."""
    if not isinstance(value, ast.Call):
        return None
    return value.func.id if isinstance(value.func, ast.Name) else getattr(value.func, "attr", None)


class Names:
    """What the names and fields of a function may stand for. Each such thing has a key, and one for all its items."""

    def __init__(self):
        self.above = {}
        self.item = {}
        self.joins = 0

    def root(self, key):
        while key in self.above:
            key = self.above[key]
        return key

    def join(self, one, other):
        """Makes one thing of two, and one of their items."""
        one, other = self.root(one), self.root(other)
        if one == other:
            return
        self.joins += 1
        self.above[other] = one
        if other in self.item:
            moved = self.item.pop(other)
            if one in self.item:
                self.join(self.item[one], moved)
            else:
                self.item[one] = moved

    def items_of(self, key):
        root = self.root(key)
        return self.item.setdefault(root, f"an item of {root}")

    def items(self, value):
        """The keys of the items of a value."""
        return [self.items_of(key) for key in self.keys(value)]

    def keys(self, value):
        """The keys of what a value may be."""
        if isinstance(value, (ast.Name, ast.Attribute)):
            return [ast.unparse(value)]
        if isinstance(value, ast.IfExp):
            return self.keys(value.body) + self.keys(value.orelse)
        if isinstance(value, ast.BoolOp):
            return [key for one in value.values for key in self.keys(one)]
        if isinstance(value, ast.NamedExpr):
            return self.keys(value.target)
        if isinstance(value, ast.Subscript) and not isinstance(value.slice, ast.Slice):
            return self.items(value.value)
        if called_name(value) in TAKES and isinstance(value.func, ast.Attribute):
            return self.items(value.func.value)
        made = f"the {type(value).__name__} at {value.lineno}, {value.col_offset}"
        for key in self.held(value):
            self.join(self.items_of(made), key)
        return [made]

    def held(self, value):
        """The keys of the items of something new."""
        if isinstance(value, (ast.List, ast.Tuple)):
            return [key for one in value.elts
                    for key in (self.items(one.value) if isinstance(one, ast.Starred) else self.keys(one))]
        if isinstance(value, ast.Dict):
            return [key for one in value.values for key in self.keys(one)]
        if isinstance(value, (ast.ListComp, ast.GeneratorExp)):
            return self.keys(value.elt)
        if isinstance(value, ast.DictComp):
            return self.keys(value.value)
        if isinstance(value, ast.Subscript):
            return self.items(value.value)
        if isinstance(value, ast.BinOp):
            return self.items(value.left) + self.items(value.right)
        return [key for one in value.args for key in self.items(one)] if called_name(value) in COPIES else []

    def walked(self, value):
        """The keys of what a loop over a value walks. A copy or a slice is new."""
        if called_name(value) in WALKERS:
            return [key for one in value.args for key in self.walked(one)]
        if called_name(value) in VIEWS and isinstance(value.func, ast.Attribute):
            return self.keys(value.func.value)
        if isinstance(value, ast.IfExp):
            return self.walked(value.body) + self.walked(value.orelse)
        if isinstance(value, ast.BoolOp):
            return [key for one in value.values for key in self.walked(one)]
        return self.keys(value)

    def read(self, node):
        """Joins what a node gives to each other."""
        if isinstance(node, ast.Assign):
            for target in node.targets:
                self.give(target, node.value)
        if isinstance(node, ast.NamedExpr):
            self.give(node.target, node.value)
        if isinstance(node, (ast.For, ast.comprehension)):
            self.give_items(node.target, node.iter)
        if isinstance(node, ast.Call) and isinstance(node.func, ast.Attribute):
            at = PUTS.get(node.func.attr, len(node.args))
            put = self.keys(node.args[at]) if at < len(node.args) else []
            if node.func.attr in ("extend", "update"):
                put = [key for one in node.args for key in self.items(one)]
            for mine in self.items(node.func.value) if put else []:
                for key in put:
                    self.join(mine, key)

    def give(self, target, value):
        """Gives a target a value."""
        both = (target, value)
        if all(isinstance(one, (ast.Tuple, ast.List)) for one in both) and len(target.elts) == len(value.elts):
            if not any(isinstance(part, ast.Starred) for one in both for part in one.elts):
                for one, given in zip(target.elts, value.elts):
                    self.give(one, given)
                return
        self.give_keys(target, self.keys(value))

    def give_keys(self, target, keys):
        """Gives a target what has these keys: its parts get the items."""
        if isinstance(target, (ast.Tuple, ast.List)):
            inner = [self.items_of(key) for key in keys]
            for one in target.elts:
                if not isinstance(one, ast.Starred):
                    self.give_keys(one, inner)
        elif not isinstance(target, ast.Subscript) or not isinstance(target.slice, ast.Slice):
            for one in self.keys(target):
                for key in keys:
                    self.join(one, key)

    def give_items(self, target, value):
        """Gives the target of a loop the items of what it walks."""
        parts = target.elts if isinstance(target, ast.Tuple) else []
        if called_name(value) == "enumerate" and len(parts) == 2:
            self.give_items(parts[1], value.args[0])
        elif called_name(value) == "zip" and len(parts) == len(value.args):
            for one, walked in zip(parts, value.args):
                self.give_items(one, walked)
        elif called_name(value) == "items" and len(parts) == 2:
            self.give_keys(parts[1], self.items(value.func.value))
        elif called_name(value) != "range":
            self.give_keys(target, [self.items_of(key) for key in self.walked(value)])
