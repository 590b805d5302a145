"""Which names of a file rule L12 of the language excludes."""

import ast
import re

PLAIN = re.compile(r"_?[A-Za-z][A-Za-z0-9_]*")
BARRED = re.compile(
    r"_(?:pe_|dcw_|enum_|cm_|twin_re_|lay_|law_|stub_|sre|WallAttr)\w*|"
    r"_(?:cold|tuplegetter|outside|record|written_out|member_names)[0-9_]*", re.ASCII)
# Attributes and methods may begin with the first of these words, but not be it.
WALL = "_wall"
WORDS = re.compile(r"\b(?:_wall|_WallAttr)\b", re.ASCII)
SIGNS = "add sub mul floordiv mod pow and or xor lshift rshift".split()
SPECIAL = [f"__{word}__" for word in (
    "init eq repr str len enter exit call iter lt le gt ge ne neg pos invert abs bool contains getitem setitem "
    "slots all version name class future").split() + SIGNS
    + ["r" + sign for sign in SIGNS if sign != "pow"] + ["i" + sign for sign in SIGNS]]


def named_by_strings(node):
    """List the attributes that a node gives as strings: in slots, and in getattr and its kin."""
    parts = []
    if isinstance(node, ast.Assign) and "__slots__" in [getattr(target, "id", None) for target in node.targets]:
        parts = ast.walk(node.value)
    if isinstance(node, ast.Call) and getattr(node.func, "id", None) in ("getattr", "hasattr", "setattr"):
        parts = node.args[1:2]
    return [part.value for part in parts if isinstance(part, ast.Constant) and isinstance(part.value, str)]


def names_of(node):
    """List the names that stand in a node of the tree itself, not in the nodes below it."""
    if isinstance(node, ast.Constant):
        return []
    fields = [value for _, value in ast.iter_fields(node)]
    parts = [part for value in fields for part in (value if isinstance(value, list) else [value])]
    return [name for part in parts if isinstance(part, str) for name in part.split(".")] + named_by_strings(node)


def is_barred(node, name, methods):
    """Tell whether a name other than _ is excluded where it stands."""
    if name in SPECIAL:
        return False
    if not PLAIN.fullmatch(name) or BARRED.fullmatch(name):
        return True
    # In an assignment and in a call no names stand but those given as strings.
    member = isinstance(node, (ast.Attribute, ast.MatchClass, ast.Assign, ast.Call)) or node in methods
    return isinstance(node, ast.ClassDef) and name.startswith("_") or name.startswith(WALL) and not member


def is_dropped(node, firsts, inner):
    """Tell whether _ is only assigned where it stands: in a function, or as a parameter."""
    stored = isinstance(node, ast.Name) and isinstance(node.ctx, ast.Store)
    return (stored or isinstance(node, ast.arg) and node not in firsts) and node in inner


def excluded_names(text):
    """List (line, name) for each name of a file that is excluded, and for each word that may stand nowhere."""
    nodes = list(ast.walk(ast.parse(text)))
    methods = {part for node in nodes if isinstance(node, ast.ClassDef)
               for part in node.body if isinstance(part, ast.FunctionDef)}
    firsts = {part for node in methods for part in (node.args.posonlyargs + node.args.args)[:1]}
    inner = {part for node in nodes if isinstance(node, (ast.FunctionDef, ast.Lambda)) for part in ast.walk(node)}
    found = {(node.lineno, name) for node in nodes for name in names_of(node)
             if (not is_dropped(node, firsts, inner) if name == "_" else is_barred(node, name, methods))}
    found |= {(text.count("\n", 0, match.start()) + 1, match.group()) for match in WORDS.finditer(text)}
    return sorted(found)
