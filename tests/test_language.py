"""Some rules of the Python subset that can be read off the files of the package."""

import ast
import builtins
import pathlib
import re
import unittest

PACKAGE = pathlib.Path(__file__).resolve().parent.parent / "tworooms"
FILES = sorted(PACKAGE.glob("*.py"))
LIBRARY = {"heapq", "math", "itertools", "collections"}
ALLOWED = set("""len range enumerate zip min max sum abs sorted reversed int str bool list tuple dict set isinstance ord
    repr any all divmod iter next map property ValueError NotImplemented""".split())
BARRED = {"register", "mro", "elements", "open", "input", "law", "version_info", "with_traceback", "add_note"}
BARRED_STARTS = ("_wall", "_pe_", "_dcw_", "_enum_", "_cm_", "_twin_re_", "_lay_", "_law_", "_stub_", "_sre",
                 "_cold", "_tuplegetter", "_outside", "_record", "_written_out", "_member_names")
METHODS = {"__init__", "__eq__", "__len__", "__iter__", "__contains__", "__neg__"}
EAGER = {"any", "all", "min", "max", "sum", "sorted"}
BUILTIN_METHODS = {name for kind in (int, str, bytes, list, tuple, dict, set) for name in dir(kind)}
CHANGING = set("append clear extend insert pop remove reverse setdefault update add discard".split())
BARRED_WORDS = re.compile(r"\b(type|typing|enum|Enum|Flag|Generic|Protocol|ABC|namedtuple|NamedTuple)\b")


def bound_names(tree):
    """Each name that a file binds: functions, classes, parameters, variables, caught errors, imports."""
    for node in ast.walk(tree):
        if isinstance(node, (ast.FunctionDef, ast.ClassDef)):
            yield node.name
        elif isinstance(node, ast.arg):
            yield node.arg
        elif isinstance(node, ast.Name) and isinstance(node.ctx, ast.Store):
            yield node.id
        elif isinstance(node, ast.ExceptHandler) and node.name:
            yield node.name
        elif isinstance(node, ast.alias):
            yield node.asname or node.name


def top_names(tree):
    """The names that a file defines at its top, without its imports."""
    names = [node.name for node in tree.body if isinstance(node, (ast.FunctionDef, ast.ClassDef))]
    for node in tree.body:
        if isinstance(node, ast.Assign):
            names += [target.id for target in node.targets]
    return names


def imports_of(tree):
    return [node for node in ast.walk(tree) if isinstance(node, (ast.ImportFrom, ast.Import))]


def shelf_of(node):
    """The variable or attribute that an expression reads, items of it included; None for anything else."""
    while isinstance(node, (ast.Subscript, ast.Starred)):
        node = node.value
    if isinstance(node, ast.Name):
        return node.id
    if isinstance(node, ast.Attribute):
        return "." + node.attr
    return None


def walked(node):
    """The shelves that a loop over the expression walks; a copy such as list(..) is none."""
    if isinstance(node, ast.Call):
        if isinstance(node.func, ast.Name) and node.func.id in ("enumerate", "zip", "reversed"):
            return set().union(*[walked(part) for part in node.args])
        if isinstance(node.func, ast.Attribute) and node.func.attr in ("items", "keys", "values"):
            return walked(node.func.value)
        return set()
    if isinstance(node, ast.IfExp):
        return walked(node.body) | walked(node.orelse)
    if isinstance(node, ast.BoolOp):
        return set().union(*[walked(part) for part in node.values])
    return {shelf_of(node)} - {None}


def changed(node):
    """The shelves that are changed anywhere in a statement or an expression."""
    found = set()
    for part in ast.walk(node):
        if isinstance(part, ast.Call) and isinstance(part.func, ast.Attribute) and part.func.attr in CHANGING:
            found.add(shelf_of(part.func.value))
        elif isinstance(part, ast.Subscript) and not isinstance(part.ctx, ast.Load):
            found.add(shelf_of(part))
        elif isinstance(part, ast.AugAssign):
            found.add(shelf_of(part.target))
    return found - {None}


def with_other_names(shelves, function):
    """The shelves and each one that a plain assignment in the function lets stand for one of them."""
    pairs = [(shelf_of(target), shelf) for node in ast.walk(function) if isinstance(node, ast.Assign)
             for target in node.targets for shelf in walked(node.value)]
    found = set(shelves)
    while True:
        more = {part for pair in pairs if found & set(pair) for part in pair} - found
        if not more:
            return found
        found |= more


def loops_that_change_what_they_walk(tree):
    """The line of each loop or comprehension that changes what it walks, by whatever name."""
    found = []
    for function in ast.walk(tree):
        if isinstance(function, ast.FunctionDef):
            for node in ast.walk(function):
                walks = [node] if isinstance(node, ast.For) else getattr(node, "generators", [])
                shelves = set().union(*[walked(walk.iter) for walk in walks])
                if with_other_names(shelves, function) & changed(node):
                    found.append(node.lineno)
    return found


class TestLanguage(unittest.TestCase):
    def setUp(self):
        self.texts = {path.stem: path.read_text(encoding="utf-8") for path in FILES}
        self.trees = {name: ast.parse(text) for name, text in self.texts.items()}

    def test_files(self):
        for path in PACKAGE.iterdir():
            if path.name != "__pycache__":
                self.assertRegex(path.name, r"^[a-z0-9_]+\.py$")

    def test_characters_and_sizes(self):
        for name, text in self.texts.items():
            self.assertRegex(text, r"\A[\n -~]*\Z", name)
            lines = text.split("\n")
            self.assertLessEqual(len(lines), 399, name)
            self.assertLessEqual(max(len(line) for line in lines), 120, name)

    def test_functions_are_short(self):
        for name, tree in self.trees.items():
            for node in ast.walk(tree):
                if isinstance(node, ast.FunctionDef):
                    self.assertLessEqual(node.end_lineno - node.lineno + 1, 40, (name, node.name))

    def test_imports(self):
        for name, tree in self.trees.items():
            for node in imports_of(tree):
                self.assertIsInstance(node, ast.ImportFrom, name)
                self.assertIn(node, tree.body, name)
                if node.module in LIBRARY:
                    continue
                self.assertTrue(node.module.startswith("tworooms."), node.module)
                source = self.trees[node.module[len("tworooms."):]]
                for alias in node.names:
                    self.assertIsNone(alias.asname)
                    self.assertIn(alias.name, top_names(source), (name, node.module))

    def test_no_circle_of_imports(self):
        needs = {name: {node.module[len("tworooms."):] for node in imports_of(tree) if node.module not in LIBRARY}
                 for name, tree in self.trees.items()}
        while needs:
            free = [name for name in needs if not needs[name] & set(needs)]
            self.assertTrue(free, needs)
            for name in free:
                del needs[name]

    def test_each_name_is_used(self):
        for name, tree in self.trees.items():
            used = {node.id for node in ast.walk(tree) if isinstance(node, ast.Name)}
            for node in imports_of(tree):
                for alias in node.names:
                    self.assertIn(alias.name, used, name)

    def test_one_binding_at_the_top(self):
        for name, tree in self.trees.items():
            names = top_names(tree) + [alias.name for node in imports_of(tree) for alias in node.names]
            self.assertEqual(len(names), len(set(names)), name)

    def test_top_of_the_files(self):
        allowed = (ast.Expr, ast.ImportFrom, ast.FunctionDef, ast.ClassDef, ast.Assign)
        for name, tree in self.trees.items():
            for at, node in enumerate(tree.body):
                self.assertIsInstance(node, allowed, name)
                self.assertTrue(not isinstance(node, ast.Expr) or at == 0, name)
                if isinstance(node, ast.Assign):
                    ast.literal_eval(node.value)

    def test_locals_do_not_hide_imports_and_classes(self):
        for name, tree in self.trees.items():
            taken = {alias.name for node in imports_of(tree) for alias in node.names}
            taken |= {node.name for node in tree.body if isinstance(node, ast.ClassDef)}
            for node in ast.walk(tree):
                if isinstance(node, ast.arg):
                    self.assertNotIn(node.arg, taken, name)
                elif isinstance(node, ast.Name) and isinstance(node.ctx, ast.Store):
                    self.assertNotIn(node.id, taken, name)

    def test_names(self):
        for name, tree in self.trees.items():
            for word in bound_names(tree):
                if word not in METHODS:
                    self.assertRegex(word, r"^(_|_?[A-Za-z][A-Za-z0-9_]*)$", name)
                    self.assertFalse(word.startswith(BARRED_STARTS), (name, word))
                    self.assertNotIn(word, BARRED, name)
                    self.assertFalse(hasattr(builtins, word), (name, word))

    def test_builtins(self):
        for name, tree in self.trees.items():
            known = set(bound_names(tree))
            for node in ast.walk(tree):
                if isinstance(node, ast.Name) and isinstance(node.ctx, ast.Load) and node.id not in known:
                    self.assertIn(node.id, ALLOWED, name)

    def test_eager_functions_take_lists(self):
        for name, tree in self.trees.items():
            for node in ast.walk(tree):
                if isinstance(node, ast.Call) and isinstance(node.func, ast.Name) and node.func.id in EAGER:
                    self.assertFalse([part for part in node.args if isinstance(part, ast.GeneratorExp)], name)

    def test_statements_and_signs(self):
        barred = (ast.Global, ast.AsyncFunctionDef, ast.Await, ast.AsyncFor, ast.AsyncWith, ast.Div, ast.AnnAssign)
        for name, tree in self.trees.items():
            for node in ast.walk(tree):
                self.assertNotIsInstance(node, barred, name)
                if isinstance(node, ast.Constant):
                    self.assertNotIsInstance(node.value, float, name)
                    self.assertFalse(isinstance(node.value, str) and "%" in node.value, name)
                if isinstance(node, ast.FunctionDef):
                    self.assertIn([ast.unparse(part) for part in node.decorator_list], ([], ["property"]), name)
                if isinstance(node, ast.Compare):
                    for sign, side in zip(node.ops, node.comparators):
                        if isinstance(sign, (ast.Is, ast.IsNot)):
                            self.assertIn(ast.unparse(side), ("None", "True", "False"), name)

    def test_no_loop_changes_what_it_walks(self):
        for name, tree in self.trees.items():
            self.assertEqual(loops_that_change_what_they_walk(tree), [], name)

    def test_such_loops_are_found(self):
        loops = ["for x in xs: xs.append(x)", "for x in self.xs: other.xs.pop()", "for x in enumerate(xs): xs[0] = x",
                 "for x in xs:\n  ys.append(x)\n xs = ys", "for x in xs or ys: ys.clear()",
                 "zs = ys if x else xs\n for x in xs: zs.append(x)", "return [xs.pop() for x in zip(ys, xs)]"]
        for text in loops:
            self.assertEqual(len(loops_that_change_what_they_walk(ast.parse("def f():\n " + text))), 1, text)
        for text in ("for x in list(xs): xs.append(x)", "for x in xs: ys.append(x)", "for x in xs: x = ys.get(x)"):
            self.assertEqual(loops_that_change_what_they_walk(ast.parse("def f():\n " + text)), [], text)

    def test_attributes(self):
        for name, tree in self.trees.items():
            for node in ast.walk(tree):
                if isinstance(node, ast.Attribute):
                    self.assertNotEqual(node.attr, "sort", name)
                    if isinstance(node.ctx, ast.Store):
                        self.assertNotIn(node.attr, BUILTIN_METHODS - {"count", "index", "add", "copy"}, name)

    def test_methods_and_attributes_have_different_names(self):
        methods, stored = set(), set()
        for tree in self.trees.values():
            for node in ast.walk(tree):
                if isinstance(node, ast.ClassDef):
                    methods |= {part.name for part in node.body if isinstance(part, ast.FunctionDef)}
                elif isinstance(node, ast.Attribute) and isinstance(node.ctx, ast.Store):
                    stored.add(node.attr)
        self.assertEqual(methods & stored, set())

    def test_words(self):
        for name, tree in self.trees.items():
            for node in ast.walk(tree):
                if isinstance(node, (ast.FunctionDef, ast.ClassDef, ast.Module)) and ast.get_docstring(node):
                    node.body = node.body[1:]
            self.assertIsNone(BARRED_WORDS.search(ast.unparse(tree)), name)

    def test_caught_errors(self):
        own = set(top_names(self.trees["errors"])) | {"KeyError"}
        for name, tree in self.trees.items():
            for node in ast.walk(tree):
                if isinstance(node, ast.ExceptHandler):
                    caught = node.type.elts if isinstance(node.type, ast.Tuple) else [node.type]
                    for part in caught:
                        self.assertIn(part.id, own, name)


if __name__ == "__main__":
    unittest.main()
