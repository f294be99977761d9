"""The files of the package keep to the parts of the language rules that a reader of the code can count."""

import ast
import builtins
import os
import unittest

HERE = os.path.dirname(os.path.abspath(__file__))
PACKAGE = os.path.join(os.path.dirname(HERE), "farheld")
LIBRARY = {
    "heapq": {"heappush", "heappop", "heapify", "heapreplace", "heappushpop"},
    "math": {"gcd", "lcm", "isqrt", "comb", "perm", "factorial"},
}
CALLED = set(
    "len range enumerate zip min max sum abs sorted reversed int str bool list tuple dict set isinstance ord repr "
    "any all divmod ValueError staticmethod property".split()
)
METHODS = set(
    "append clear copy count endswith extend find get index insert isalnum isalpha isdigit islower isspace isupper "
    "items join keys ljust lower lstrip partition pop remove replace reverse rfind rjust rpartition rsplit rstrip "
    "setdefault split splitlines startswith strip update upper values zfill bit_length removeprefix removesuffix "
    "isascii isdecimal isnumeric".split()
)
NO_ATTRIBUTES = set(
    "items keys values pop update append clear extend insert remove reverse setdefault sort args encode decode hex "
    "fromhex format mro elements open input law".split()
)
NO_WORDS = set(
    "type typing typing_extensions enum Enum IntEnum StrEnum Flag IntFlag Generic Protocol ABC ABCMeta namedtuple "
    "NamedTuple TypedDict TYPE_CHECKING abstractmethod".split()
)
NO_NODES = (
    ast.AsyncFunctionDef, ast.Await, ast.AsyncFor, ast.AsyncWith, ast.Global, ast.Nonlocal, ast.GeneratorExp,
    ast.Set, ast.SetComp, ast.Div, ast.MatMult, ast.With, ast.Match, ast.NamedExpr, ast.Import, ast.AnnAssign, ast.Pow,
)
BAD_BEGINNINGS = ("_wall", "_pe_", "_dcw_", "_enum_", "_cm_", "_twin_re_", "_lay_", "_law_", "_stub_", "_sre", "_WallAttr")
BAD_NAMES = ("_cold", "_tuplegetter", "_outside", "_record", "_written_out", "_member_names")
NEVER = ("mro", "elements", "open", "input", "law", "version_info", "with_traceback", "add_note")


def files():
    return sorted(name for name in os.listdir(PACKAGE) if name.endswith(".py"))


def text_of(name):
    with open(os.path.join(PACKAGE, name), encoding="utf-8") as file:
        return file.read()


def own_imports(tree):
    return [node.module for node in tree.body if isinstance(node, ast.ImportFrom) and node.module.startswith("farheld")]


class LanguageTest(unittest.TestCase):
    def trees(self):
        for name in files():
            text = text_of(name)
            yield name, text, ast.parse(text)

    def test_folder_holds_python_files_alone(self):
        others = [name for name in os.listdir(PACKAGE) if not name.endswith(".py") and name != "__pycache__"]
        self.assertEqual(others, [])

    def test_sizes_and_characters(self):
        for name, text, tree in self.trees():
            lines = text.split("\n")
            self.assertLessEqual(len(lines) - 1, 399)
            self.assertTrue(text.endswith("\n") and not text.endswith("\n\n"))
            for line in lines:
                self.assertLessEqual(len(line), 120)
                self.assertTrue(all(" " <= sign <= "~" for sign in line), line)
                self.assertEqual(line, line.rstrip())
            for node in ast.walk(tree):
                if isinstance(node, ast.FunctionDef):
                    self.assertLessEqual(node.end_lineno - node.lineno + 1, 40, node.name)

    def test_imports(self):
        for name, _, tree in self.trees():
            for node in ast.walk(tree):
                if not isinstance(node, ast.ImportFrom):
                    continue
                self.assertEqual(node.level, 0)
                self.assertIn(node, tree.body)
                for told in node.names:
                    self.assertIsNone(told.asname)
                    if node.module in LIBRARY:
                        self.assertIn(told.name, LIBRARY[node.module])
                        continue
                    source = ast.parse(text_of(node.module.split(".")[1] + ".py"))
                    self.assertIn(told.name, defined(source), node.module)

    def test_every_import_is_used(self):
        for name, _, tree in self.trees():
            used = {node.id for node in ast.walk(tree) if isinstance(node, ast.Name)}
            self.assertEqual(imported(tree) - used, set())

    def test_no_ring_of_imports(self):
        links = {name[:-3]: [told.split(".")[1] for told in own_imports(ast.parse(text_of(name)))] for name in files()}
        done = set()
        while len(done) < len(links):
            ready = [name for name in links if name not in done and all(other in done for other in links[name])]
            self.assertTrue(ready, sorted(set(links) - done))
            done.update(ready)

    def test_statements_and_expressions(self):
        for name, _, tree in self.trees():
            for node in ast.walk(tree):
                self.assertNotIsInstance(node, NO_NODES)
                if isinstance(node, ast.Constant):
                    self.assertNotIsInstance(node.value, (float, complex, bytes))
                    if isinstance(node.value, str):
                        self.assertNotIn("%", node.value)
                if isinstance(node, (ast.FunctionDef, ast.ClassDef)):
                    told = [ast.unparse(one) for one in node.decorator_list]
                    self.assertTrue(set(told) <= {"staticmethod", "property"})
            for node in tree.body:
                told = isinstance(node, ast.Expr) and isinstance(node.value, ast.Constant)
                self.assertTrue(told or isinstance(node, (ast.ImportFrom, ast.FunctionDef, ast.ClassDef, ast.Assign)))

    def test_names(self):
        every = set(dir(builtins))
        for name, text, tree in self.trees():
            taken = imported(tree) | {node.name for node in tree.body if isinstance(node, ast.ClassDef)}
            for node in ast.walk(tree):
                if isinstance(node, ast.Name) and isinstance(node.ctx, ast.Store):
                    self.assertNotIn(node.id, every | taken)
                if isinstance(node, ast.arg):
                    self.assertNotIn(node.arg, every | taken)
                if isinstance(node, ast.Name) and isinstance(node.ctx, ast.Load) and node.id in every:
                    self.assertIn(node.id, CALLED)
                if isinstance(node, ast.Name):
                    self.assertNotIn(node.id, NO_WORDS)

    def test_attributes_and_methods(self):
        attributes, methods = set(), set()
        for _, _, tree in self.trees():
            for node in ast.walk(tree):
                if isinstance(node, ast.Attribute) and isinstance(node.ctx, ast.Store):
                    attributes.add(node.attr)
                if isinstance(node, ast.ClassDef):
                    methods.update(one.name for one in node.body if isinstance(one, ast.FunctionDef))
        self.assertEqual(attributes & NO_ATTRIBUTES, set())
        for _, _, tree in self.trees():
            for node in ast.walk(tree):
                if isinstance(node, ast.Attribute) and isinstance(node.ctx, ast.Load):
                    self.assertIn(node.attr, attributes | methods | METHODS)

    def test_names_are_plain(self):
        for _, _, tree in self.trees():
            for node in ast.walk(tree):
                names = []
                if isinstance(node, (ast.FunctionDef, ast.ClassDef)):
                    names.append(node.name)
                for kind, part in ((ast.Name, "id"), (ast.arg, "arg"), (ast.Attribute, "attr"), (ast.keyword, "arg")):
                    if isinstance(node, kind):
                        names.append(getattr(node, part))
                for name in names:
                    if name in ("__init__", "__eq__", "__len__", "_"):
                        continue
                    self.assertRegex(name, "^_?[A-Za-z][A-Za-z0-9_]*$")
                    self.assertFalse(name.startswith(BAD_BEGINNINGS + BAD_NAMES) or name in NEVER, name)

    def test_underscore_is_never_read(self):
        for _, _, tree in self.trees():
            for node in ast.walk(tree):
                if isinstance(node, ast.Name) and node.id == "_":
                    self.assertIsInstance(node.ctx, ast.Store)

    def test_own_errors_alone_are_caught(self):
        own = {node.name for node in ast.parse(text_of("errors.py")).body if isinstance(node, ast.ClassDef)}
        for _, _, tree in self.trees():
            for node in ast.walk(tree):
                if isinstance(node, ast.Try):
                    for one in node.finalbody:
                        self.assertIsInstance(one, ast.Assign)
                        parts = [one.value] + one.targets
                        parts = [inner for part in parts for inner in (part.elts if isinstance(part, ast.Tuple) else [part])]
                        self.assertTrue(all(isinstance(part, (ast.Name, ast.Attribute)) for part in parts))
                    for handler in node.handlers:
                        self.assertIn(handler.type.id, own)
                if isinstance(node, ast.Raise) and node.exc is not None:
                    self.assertIn(node.exc.func.id, own | {"ValueError"})

    def test_identity_is_asked_of_none_alone(self):
        for _, _, tree in self.trees():
            for node in ast.walk(tree):
                if isinstance(node, ast.Compare):
                    for sign, side in zip(node.ops, node.comparators):
                        if isinstance(sign, (ast.Is, ast.IsNot)):
                            self.assertTrue(isinstance(side, ast.Constant) and side.value in (None, True, False))

    def test_deleted_are_items_alone(self):
        for _, _, tree in self.trees():
            for node in ast.walk(tree):
                if isinstance(node, ast.Delete):
                    self.assertTrue(all(isinstance(target, ast.Subscript) for target in node.targets))

    def test_keywords_of_builtins(self):
        lets = {"sorted": ("key", "reverse"), "min": ("key", "default"), "max": ("key", "default")}
        for _, _, tree in self.trees():
            for node in ast.walk(tree):
                if isinstance(node, ast.Call) and isinstance(node.func, ast.Name) and node.func.id in dir(builtins):
                    self.assertTrue({told.arg for told in node.keywords} <= set(lets.get(node.func.id, ())), node.func.id)
                if isinstance(node, ast.Call) and isinstance(node.func, ast.Attribute) and node.func.attr in METHODS:
                    self.assertEqual(node.keywords, [])

    def test_stars_stand_before_names_and_targets_nest_names(self):
        for _, _, tree in self.trees():
            for node in ast.walk(tree):
                if isinstance(node, ast.Call):
                    for told in node.args:
                        if isinstance(told, ast.Starred):
                            self.assertIsInstance(told.value, (ast.Name, ast.Attribute))
                    self.assertIsInstance(node.func, (ast.Name, ast.Attribute))
                if isinstance(node, ast.Tuple) and isinstance(node.ctx, ast.Store):
                    for part in [one for told in node.elts if isinstance(told, ast.Tuple) for one in told.elts]:
                        self.assertIsInstance(part, (ast.Name, ast.Tuple))

    def test_lambdas_stand_alone(self):
        for _, _, tree in self.trees():
            lines = [node.lineno for node in ast.walk(tree) if isinstance(node, ast.Lambda)]
            self.assertEqual(len(lines), len(set(lines)))

    def test_methods_and_attributes_of_a_class_differ(self):
        for _, _, tree in self.trees():
            for node in tree.body:
                if isinstance(node, ast.ClassDef):
                    methods = [one.name for one in node.body if isinstance(one, ast.FunctionDef)]
                    self.assertEqual(len(methods), len(set(methods)))
                    stored = {one.attr for one in ast.walk(node) if isinstance(one, ast.Attribute) and isinstance(one.ctx, ast.Store)}
                    self.assertEqual(stored & set(methods), set())

    def test_generators_are_iterated_at_once(self):
        generators = set()
        for _, _, tree in self.trees():
            for node in ast.walk(tree):
                if isinstance(node, ast.FunctionDef) and any(isinstance(one, ast.Yield) for one in ast.walk(node)):
                    generators.add(node.name)
        self.assertEqual(generators, {"walk_rate_bars", "possible_outcomes", "walk_slabs"})
        for _, _, tree in self.trees():
            held = {id(node.iter) for node in ast.walk(tree) if isinstance(node, (ast.For, ast.comprehension))}
            for node in ast.walk(tree):
                if isinstance(node, ast.Call) and isinstance(node.func, ast.Name) and node.func.id in ("list", "tuple"):
                    held.update(id(one) for one in node.args)
            for node in ast.walk(tree):
                if isinstance(node, ast.Call) and isinstance(node.func, ast.Name) and node.func.id in generators:
                    self.assertIn(id(node), held)

    def test_views_and_zips_are_iterated_at_once(self):
        takers = ("list", "tuple", "dict", "sorted", "sum", "any", "all", "enumerate", "zip", "min", "max")
        for _, _, tree in self.trees():
            held = {id(node.iter) for node in ast.walk(tree) if isinstance(node, (ast.For, ast.comprehension))}
            for node in ast.walk(tree):
                if isinstance(node, ast.Call) and isinstance(node.func, ast.Name) and node.func.id in takers:
                    held.update(id(one) for one in node.args)
            for node in ast.walk(tree):
                if not isinstance(node, ast.Call):
                    continue
                name = getattr(node.func, "id", getattr(node.func, "attr", ""))
                if name in ("zip", "enumerate", "reversed", "items", "values", "keys"):
                    self.assertIn(id(node), held, ast.unparse(node))

    def test_what_a_loop_goes_over_is_not_changed_in_it(self):
        changing = {"append", "extend", "insert", "pop", "remove", "reverse", "setdefault", "update", "clear"}
        for _, _, tree in self.trees():
            for loop in ast.walk(tree):
                if not isinstance(loop, ast.For):
                    continue
                over = {ast.unparse(node) for node in ast.walk(loop.iter) if isinstance(node, (ast.Name, ast.Attribute))}
                for node in [one for part in loop.body for one in ast.walk(part)]:
                    if isinstance(node, ast.Call) and isinstance(node.func, ast.Attribute) and node.func.attr in changing:
                        self.assertNotIn(ast.unparse(node.func.value), over)
                    if isinstance(node, ast.Subscript) and isinstance(node.ctx, (ast.Store, ast.Del)):
                        self.assertNotIn(ast.unparse(node.value), over)

    def test_a_set_is_made_only_where_it_is_used_up(self):
        for _, _, tree in self.trees():
            for node in ast.walk(tree):
                for child in ast.iter_child_nodes(node):
                    if isinstance(child, ast.Call) and isinstance(child.func, ast.Name) and child.func.id == "set":
                        self.assertIsInstance(node, ast.Call)
                        self.assertIn(node.func.id, ("sorted", "len"))

    def test_equality_asks_for_the_class_first(self):
        for _, _, tree in self.trees():
            for node in ast.walk(tree):
                if isinstance(node, ast.FunctionDef) and node.name == "__eq__":
                    self.assertTrue(ast.unparse(node.body[0]).startswith("if not isinstance(other, "))


def imported(tree):
    return {told.name for node in tree.body if isinstance(node, ast.ImportFrom) for told in node.names}


def defined(tree):
    names = set()
    for node in tree.body:
        if isinstance(node, (ast.FunctionDef, ast.ClassDef)):
            names.add(node.name)
        if isinstance(node, ast.Assign):
            names.update(target.id for target in node.targets)
    return names


if __name__ == "__main__":
    unittest.main()
