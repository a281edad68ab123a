"""The rules of the language subset that a program can see."""

import ast
import builtins
import importlib
import pathlib
import re
import unittest

FOLDER = pathlib.Path(__file__).resolve().parent.parent / "backfilled"
FILES = {path.stem: path.read_text() for path in sorted(FOLDER.glob("*.py"))}
TREES = {name: ast.parse(text) for name, text in FILES.items()}
BUILTINS = set(
    "len range enumerate zip min max sum abs sorted reversed int str bool list tuple dict set isinstance ord repr any all "
    "divmod pow Exception ValueError TypeError KeyError IndexError LookupError property".split()
)
METHODS = set(
    "append clear copy count endswith extend find get index insert isalnum isalpha isdigit islower isspace isupper items "
    "join keys ljust lower lstrip partition pop remove replace reverse rfind rjust rpartition rsplit rstrip setdefault "
    "split splitlines startswith strip update upper values zfill removeprefix isascii isprintable encode from_bytes bit_length".split()
)
CHANGING = set("append clear extend insert pop remove reverse setdefault update".split())
DOUBLE = set(
    "__init__ __eq__ __len__ __call__ __iter__ __add__ __sub__ __contains__ __getitem__ __enter__ __exit__".split()
)
BARRED = re.compile(
    r"\b(type|typing|enum|Enum|Flag|Generic|Protocol|ABC|namedtuple|NamedTuple|TypedDict|abstractmethod|Meta|_wall\w*"
    r"|_record|_outside|register|mro|elements|input|law|chr|global|async|lambda|eval|exec)\b"
)
UNUSED = set("register mro elements open input law version_info with_traceback add_note args format".split())
OUTSIDE = (
    ast.GeneratorExp, ast.AnnAssign, ast.Global, ast.AsyncFunctionDef, ast.Await, ast.NamedExpr, ast.Lambda,
    ast.YieldFrom, ast.Div, ast.MatMult, ast.With, ast.Match, ast.Set, ast.Nonlocal,
)


def nodes(kind):
    return [(name, node) for name, tree in TREES.items() for node in ast.walk(tree) if isinstance(node, kind)]


def functions():
    return nodes(ast.FunctionDef)


class LanguageTest(unittest.TestCase):
    def test_files(self):
        for path in FOLDER.iterdir():
            self.assertTrue(path.name == "__pycache__" or re.fullmatch(r"[a-z_]+\.py", path.name), path)

    def test_sizes_and_characters(self):
        for name, text in FILES.items():
            self.assertLessEqual(len(text.splitlines()), 399, name)
            self.assertLessEqual(max(len(line) for line in text.splitlines()), 120, name)
            self.assertRegex(text, r"\A[ -~\n]*\Z", name)
            self.assertNotRegex(text, r"[ \t]\n", name)
        for name, node in functions():
            self.assertLessEqual(node.end_lineno - node.lineno + 1, 40, (name, node.name))

    def test_every_part_has_a_docstring(self):
        nested = {id(one) for _, node in functions() for one in ast.walk(node) if one is not node}
        for name, node in nodes((ast.Module, ast.ClassDef, ast.FunctionDef)):
            if not getattr(node, "name", "").startswith("__") and id(node) not in nested:
                self.assertTrue(ast.get_docstring(node), (name, node))

    def test_statements_and_signs(self):
        for kind in OUTSIDE:
            self.assertEqual([(name, node.lineno) for name, node in nodes(kind)], [])
        for name, node in nodes(ast.Constant):
            self.assertNotIsInstance(node.value, (float, complex))
            if isinstance(node.value, str):
                self.assertNotIn("%", node.value, name)

    def test_remainders_are_those_of_what_surely_are_numbers(self):
        found = [(name, node.left) for name, node in nodes(ast.BinOp) if isinstance(node.op, ast.Mod)]
        self.assertGreater(len(found), 0)
        for name, left in found:
            self.assertRegex(ast.unparse(left), r"\A(int\(|len\(|[0-9]+\Z)", name)
            self.assertIsInstance(left, (ast.Call, ast.Constant), name)
        for name, node in nodes(ast.AugAssign):
            self.assertNotIsInstance(node.op, ast.Mod, name)

    def test_values_of_modules(self):
        sizes = []
        for name, tree in TREES.items():
            module = importlib.import_module(f"backfilled.{name}" if name != "__init__" else "backfilled")
            for node in tree.body:
                if isinstance(node, ast.Assign):
                    value = getattr(module, node.targets[0].id)
                    sizes.append(value.bit_length() if isinstance(value, int) else len(repr(value)))
        self.assertLessEqual(max(sizes), 50000)
        self.assertLessEqual(sum(sizes), 500000)

    def test_only_own_errors_are_caught(self):
        own = [node.name for node in TREES["errors"].body if isinstance(node, ast.ClassDef)]
        for name, node in nodes(ast.Try):
            self.assertEqual((node.finalbody, node.orelse), ([], []), name)
            for handler in node.handlers:
                self.assertIn(handler.type.id, own, name)
                self.assertIsNone(handler.name)

    def test_generators(self):
        parents = {id(child): node for _, node in nodes(ast.AST) for child in ast.iter_child_nodes(node)}
        made = [node.name for _, node in functions() if any(isinstance(one, ast.Yield) for one in ast.walk(node))]
        self.assertEqual([len(made), sum(node.name in made for _, node in functions())], [len(set(made))] * 2)
        for name, node in nodes(ast.Yield):
            while not isinstance(node, ast.FunctionDef):
                node = parents[id(node)]
                self.assertIsInstance(node, (ast.Expr, ast.If, ast.While, ast.For, ast.FunctionDef), name)
        for name, node in nodes(ast.Attribute):
            self.assertNotIn(node.attr, made, name)

    def test_exits(self):
        for name, node in functions():
            if node.name == "__exit__":
                self.assertIsNotNone(node.args.vararg)
                for one in node.body:
                    self.assertRegex(ast.unparse(one), r"\Aself\.\w+ = (True|False|None|self\.\w+)\Z")

    def test_imports_name_the_file_that_defines(self):
        uses = {}
        for name, tree in TREES.items():
            uses[name] = []
            for node in tree.body:
                if isinstance(node, (ast.Import, ast.ImportFrom)):
                    self.assertIsInstance(node, ast.ImportFrom)
                    self.assertRegex(node.module, r"\Abackfilled\.[a-z]+\Z")
                    other = node.module.split(".")[1]
                    uses[name].append(other)
                    for alias in node.names:
                        self.assertIsNone(alias.asname)
                        self.assertIn(alias.name, bound_in(TREES[other]))
                        self.assertRegex(FILES[name].split(alias.name, 1)[1], rf"\b{alias.name}\b")
        self.assertEqual(len(nodes((ast.Import, ast.ImportFrom))), sum(len(others) for others in uses.values()))
        while uses:
            free = [name for name in uses if not any(other in uses for other in uses[name])]
            self.assertTrue(free, uses)
            uses = {name: others for name, others in uses.items() if name not in free}

    def test_module_level(self):
        for name, tree in TREES.items():
            bound = bound_in(tree)
            self.assertEqual(len(bound), len(set(bound)), name)
            for node in tree.body:
                allowed = (ast.Expr, ast.ImportFrom, ast.FunctionDef, ast.ClassDef, ast.Assign)
                self.assertIsInstance(node, allowed, name)

    def test_decorators_and_double_underscores(self):
        for name, node in functions():
            self.assertIn([ast.unparse(one) for one in node.decorator_list], [[], ["property"]], name)
            self.assertTrue(not node.name.startswith("__") or node.name in DOUBLE, node.name)
        for name, node in nodes(ast.ClassDef):
            self.assertEqual(node.decorator_list, [])

    def test_annotations(self):
        for name, node in functions():
            self.assertIsNone(node.returns, name)
        for name, node in nodes(ast.arg):
            self.assertIsNone(node.annotation, name)

    def test_names(self):
        for name, node in nodes((ast.Name, ast.arg, ast.FunctionDef, ast.ClassDef, ast.Attribute)):
            word = {ast.Name: "id", ast.arg: "arg", ast.Attribute: "attr"}.get(type(node), "name")
            word = getattr(node, word)
            self.assertTrue(word in DOUBLE or re.fullmatch(r"_|_?[a-zA-Z][a-zA-Z0-9_]*", word), (name, word))
            self.assertNotIn(word, UNUSED, name)
            if isinstance(node, ast.Attribute):
                continue
            loaded = isinstance(node, ast.Name) and isinstance(node.ctx, ast.Load)
            if loaded:
                self.assertNotEqual(word, "_")
                self.assertTrue(not hasattr(builtins, word) or word in BUILTINS, (name, word))
            else:
                self.assertTrue(word in DOUBLE or word == "_" or not hasattr(builtins, word), (name, word))
        for name, text in FILES.items():
            code = "\n".join(line.split("#")[0] for line in re.sub(r'"""(.|\n)*?"""', "", text).splitlines())
            self.assertIsNone(BARRED.search(code), (name, BARRED.search(code)))

    def test_no_local_has_the_name_of_an_import_or_a_class(self):
        for name, tree in TREES.items():
            taken = [one for one in bound_in(tree, ast.ClassDef, ast.ImportFrom)]
            for node in ast.walk(tree):
                if isinstance(node, ast.arg):
                    self.assertNotIn(node.arg, taken, name)
                elif isinstance(node, ast.Name) and not isinstance(node.ctx, ast.Load):
                    self.assertNotIn(node.id, taken, name)

    def test_properties_and_attributes(self):
        properties = [node.name for _, node in functions() if node.decorator_list]
        methods = [one.name for _, node in nodes(ast.ClassDef) for one in node.body if isinstance(one, ast.FunctionDef)]
        assigned = [node.attr for _, node in nodes(ast.Attribute) if isinstance(node.ctx, ast.Store)]
        for word in properties:
            self.assertEqual((assigned.count(word), methods.count(word)), (0, properties.count(word)))
        self.assertNotIn("keys", [*assigned, *methods])
        self.assertEqual([word for word in assigned if word in methods], [])
        self.assertEqual([word for word in assigned if word in METHODS], [])

    def test_methods_that_are_called(self):
        own = [one.name for _, node in nodes(ast.ClassDef) for one in node.body if isinstance(one, ast.FunctionDef)]
        for name, node in nodes(ast.Call):
            if isinstance(node.func, ast.Attribute):
                self.assertIn(node.func.attr, [*own, *METHODS], name)
                self.assertEqual(node.keywords, [])

    def test_stars_and_identity(self):
        for name, node in nodes(ast.Starred):
            self.assertIsInstance(node.value, (ast.Name, ast.Attribute, ast.Subscript), (name, node.lineno))
        for name, node in nodes(ast.Compare):
            for sign, other in zip(node.ops, node.comparators):
                if isinstance(sign, (ast.Is, ast.IsNot)):
                    self.assertIn(ast.unparse(other), ("None", "True", "False"), (name, node.lineno))

    def test_attributes_that_are_read_are_assigned(self):
        called = {id(node.func) for _, node in nodes(ast.Call)}
        assigned = {node.attr for _, node in nodes(ast.Attribute) if isinstance(node.ctx, ast.Store)}
        properties = {node.name for _, node in functions() if node.decorator_list}
        for name, node in nodes(ast.Attribute):
            if isinstance(node.ctx, ast.Load) and id(node) not in called:
                self.assertIn(node.attr, assigned | properties, (name, node.lineno))

    def test_classes_are_called_or_asked_for(self):
        own = {node.name for _, node in nodes(ast.ClassDef)}
        parents = {id(child): node for _, node in nodes(ast.AST) for child in ast.iter_child_nodes(node)}
        for name, node in nodes(ast.Name):
            if node.id in own:
                above = parents[id(node)]
                if isinstance(above, ast.Call):
                    self.assertTrue(above.func is node or above.func.id == "isinstance", (name, node.lineno))
                else:
                    self.assertIsInstance(above, (ast.ClassDef, ast.ExceptHandler), (name, node.lineno))

    def test_calls_pass_what_functions_take(self):
        takes = {}
        for _, tree in TREES.items():
            for node in tree.body:
                if isinstance(node, ast.FunctionDef):
                    takes[node.name] = [node.args]
                for one in node.body if isinstance(node, ast.ClassDef) else []:
                    if isinstance(one, ast.FunctionDef):
                        takes.setdefault(node.name if one.name == "__init__" else one.name, []).append(one.args)
        for name, node in nodes(ast.Call):
            word = getattr(node.func, "id", getattr(node.func, "attr", None))
            if word in takes and word not in METHODS:
                own = isinstance(node.func, ast.Name) and word[0].islower()
                ways = [(len(one.args) - (not own), len(one.defaults)) for one in takes[word]]
                fits = [most - few <= len(node.args) <= most for most, few in ways]
                self.assertTrue(any(fits), (name, node.lineno, word))

    def test_loops_do_not_change_what_they_go_over(self):
        for name, node in nodes(ast.For):
            over = {ast.unparse(one) for one in ast.walk(node.iter) if isinstance(one, (ast.Name, ast.Attribute))}
            for one in [inner for line in node.body for inner in ast.walk(line)]:
                if isinstance(one, ast.Call) and isinstance(one.func, ast.Attribute) and one.func.attr in CHANGING:
                    self.assertNotIn(ast.unparse(one.func.value), over, (name, one.lineno))
                if isinstance(one, ast.Subscript) and not isinstance(one.ctx, ast.Load):
                    self.assertNotIn(ast.unparse(one.value), over, (name, one.lineno))

    def test_sets_and_iterators_are_used_on_the_spot(self):
        parents = {id(child): node for _, node in nodes(ast.AST) for child in ast.iter_child_nodes(node)}
        for name, node in nodes((ast.Call, ast.SetComp)):
            call = getattr(getattr(node, "func", None), "id", None)
            if isinstance(node, ast.SetComp) or call == "set":
                self.assertIn(getattr(parents[id(node)].func, "id", None), ("len", "sorted"), name)
            if call in ("zip", "enumerate", "reversed"):
                self.assertIsInstance(parents[id(node)], (ast.For, ast.comprehension), name)


def bound_in(tree, *kinds):
    """The names that a module binds at its top."""
    bound = []
    for node in tree.body:
        if kinds and not isinstance(node, kinds):
            continue
        if isinstance(node, ast.ImportFrom):
            bound.extend(alias.name for alias in node.names)
        elif isinstance(node, (ast.FunctionDef, ast.ClassDef)):
            bound.append(node.name)
        elif isinstance(node, ast.Assign):
            bound.extend(target.id for target in node.targets)
    return bound


if __name__ == "__main__":
    unittest.main()
