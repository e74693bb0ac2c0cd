"""L5 and L28: what operators, __eq__, __str__, __repr__, __len__ and properties reach changes nothing and has no yield."""

import ast

# These may change what they like; all other double-underscore methods may not.
FREE = ("__init__", "__call__", "__enter__", "__exit__", "__iter__", "__setitem__")
CHANGING = set("append clear extend insert pop remove reverse setdefault sort update add discard".split())
CREATORS = ("list", "dict", "sorted")


def classes_of(trees):
    return {node.name: node for tree in trees.values() for node in tree.body if isinstance(node, ast.ClassDef)}


def methods_in(owner):
    return [row for row in owner.body if isinstance(row, ast.FunctionDef)]


def is_property(method):
    return any(isinstance(mark, ast.Name) and mark.id == "property" for mark in method.decorator_list)


def is_root(method):
    """Whether a method must change nothing: a sign, or a property that is read."""
    double = method.name.startswith("__") and method.name not in FREE
    return is_property(method) or double and method.name[2:3] != "i" or method.name == "__invert__"


def makers(name, classes):
    """The __init__ methods that run when an object of a class is made."""
    found = [method for method in methods_in(classes[name]) if method.name == "__init__"]
    for base in classes[name].bases:
        if base.id in classes:
            found.extend(makers(base.id, classes))
    return found


def definitions(trees):
    """For each name that can be called, the functions and methods that the call may run."""
    classes = classes_of(trees)
    found = {name: makers(name, classes) for name in classes}
    functions = [row for tree in trees.values() for row in tree.body if isinstance(row, ast.FunctionDef)]
    # __init__ is reached through its class.
    methods = [row for owner in classes.values() for row in methods_in(owner) if row.name != "__init__"]
    for row in [*functions, *methods]:
        found.setdefault(row.name, []).append(row)
    return found


def called_names(function):
    for node in ast.walk(function):
        if isinstance(node, ast.Call):
            yield getattr(node.func, "id", None) or getattr(node.func, "attr", None)
        elif isinstance(node, ast.Attribute):
            yield node.attr


def reached_from(root, found):
    """All functions and methods that a method runs, directly or through others, and itself."""
    reached, waiting = [], [root]
    while waiting:
        function = waiting.pop()
        if function not in reached:
            reached.append(function)
            waiting.extend(inner for name in called_names(function) for inner in found.get(name, []))
    return reached


def is_created(node):
    """Whether an expression makes a new list or dict."""
    made = isinstance(node, ast.Call) and isinstance(node.func, ast.Name) and node.func.id in CREATORS
    return made or isinstance(node, (ast.List, ast.ListComp, ast.Dict))


def created_names(function):
    """The local variables that are assigned nothing but new lists and dicts."""
    values = {}
    for node in ast.walk(function):
        for target in getattr(node, "targets", []) if isinstance(node, ast.Assign) else []:
            if isinstance(target, ast.Name):
                values.setdefault(target.id, []).append(node.value)
            for name in ast.walk(target) if not isinstance(target, ast.Name) else []:
                values.setdefault(getattr(name, "id", None), []).append(None)
        if isinstance(node, (ast.For, ast.comprehension)):
            for name in ast.walk(node.target):
                values.setdefault(getattr(name, "id", None), []).append(None)
    return {name for name, given in values.items() if all(is_created(value) for value in given)}


def number_names(function):
    """The local variables that are assigned nothing but literal numbers and strings."""
    rows = [node for node in ast.walk(function) if isinstance(node, ast.Assign)]
    plain = {row.targets[0].id for row in rows if isinstance(row.targets[0], ast.Name)}
    odd = {getattr(name, "id", None) for row in rows if not isinstance(row.value, ast.Constant)
           for target in row.targets for name in ast.walk(target)}
    return plain - odd


def parameters(function):
    given = function.args
    return {arg.arg for arg in [*given.args, *given.kwonlyargs, given.vararg, given.kwarg] if arg}


def changes(function):
    """What a function changes that it did not create itself, or calls although it was passed it."""
    created, own = created_names(function), [arg.arg for arg in function.args.args[:1]]
    for node in ast.walk(function):
        if isinstance(node, (ast.Yield, ast.YieldFrom)):
            yield "yield"
        if isinstance(node, (ast.Attribute, ast.Subscript)) and not isinstance(node.ctx, ast.Load):
            target = getattr(node.value, "id", None)
            making = function.name == "__init__" and isinstance(node, ast.Attribute) and target in own
            if not making and not (isinstance(node, ast.Subscript) and target in created):
                yield "an assigned attribute or item"
        if isinstance(node, ast.AugAssign) and getattr(node.target, "id", None) not in number_names(function):
            yield "an assignment in place"
        if isinstance(node, ast.Call) and isinstance(node.func, ast.Attribute) and node.func.attr in CHANGING:
            if getattr(node.func.value, "id", None) not in created:
                yield f"a call of {node.func.attr}"
        if isinstance(node, ast.Call) and getattr(node.func, "id", None) in parameters(function):
            yield "a call of what was passed"


def reach_faults(trees):
    """The faults of all files together, each as one text."""
    found = definitions(trees)
    faults = []
    for owner in classes_of(trees).values():
        for root in filter(is_root, methods_in(owner)):
            for function in reached_from(root, found):
                faults.extend(f"L28 {owner.name}.{root.name} reaches {function.name}: {why}" for why in changes(function))
    return faults
