"""The form of the program: what can be checked of the rules of ../shared/LANGUAGE.md.

The package uses less than the rules allow. What stands in no list below is refused; whoever wants to use it
reads its rule first and then adds it here.
"""

import ast
import builtins
import pathlib
import unittest

PACKAGE = pathlib.Path(__file__).resolve().parent.parent / "surerails"
NODES = (
    "Add And Assign Attribute AugAssign BinOp BoolOp Call ClassDef Compare Constant DictComp Dict Eq Expr For "
    "FormattedValue FunctionDef Gt GtE If IfExp ImportFrom In Is IsNot JoinedStr List ListComp Load Lt LtE Module "
    "Mult Mod Name Not NotEq NotIn Or Raise Return Slice Starred Store Sub Subscript Tuple USub UnaryOp While alias "
    "arg arguments comprehension keyword"
).split()
BUILTINS = (
    "len range enumerate zip min max sum abs sorted reversed int str bool list tuple dict set isinstance any all "
    "divmod iter ValueError super"
).split()
METHODS = (
    "append copy count endswith extend find get index insert isdigit items join keys pop remove replace reverse "
    "setdefault split startswith strip update values"
).split()
DUNDERS = ["__init__", "__iter__", "__contains__", "__or__", "__and__", "__eq__"]
BARRED_NAMES = "register mro elements open input law version_info with_traceback add_note".split()
BARRED_WORDS = (
    "typing enum Enum Generic Protocol ABC namedtuple NamedTuple TypedDict type global nonlocal lambda yield async"
).split()
BARRED_BEGINNINGS = ("_wall", "_pe_", "_dcw_", "_enum_", "_cm_", "_twin_re_", "_lay_", "_law_", "_stub_", "_sre")
BARRED_STEMS = ("_cold", "_tuplegetter", "_outside", "_record", "_written_out", "_member_names")


def files():
    return sorted(PACKAGE.glob("*.py"))


def trees():
    return {path.stem: ast.parse(path.read_text()) for path in files()}


def imports_of(tree):
    """The names that a file imports, each with its file."""
    found = {}
    for node in tree.body:
        if isinstance(node, ast.ImportFrom):
            for name in node.names:
                found[name.name] = node.module
    return found


def bound_names(tree):
    """All names that are parameters, assigned, or loop over something."""
    for node in ast.walk(tree):
        if isinstance(node, ast.arg):
            yield node.arg
        elif isinstance(node, ast.Name) and isinstance(node.ctx, ast.Store):
            yield node.id


def methods_and_attributes(node):
    methods = [child.name for child in node.body if isinstance(child, ast.FunctionDef)]
    attributes = [
        child.attr for child in ast.walk(node) if isinstance(child, ast.Attribute) and isinstance(child.ctx, ast.Store)
    ]
    return methods, attributes


def classes():
    return [node for tree in trees().values() for node in tree.body if isinstance(node, ast.ClassDef)]


class TestFiles(unittest.TestCase):

    def test_the_package_holds_plain_files_alone(self):
        for path in PACKAGE.iterdir():
            if path.name != "__pycache__":
                self.assertRegex(path.name, r"^[a-z_]+\.py$")
        self.assertIn("__init__", trees())

    def test_sizes_and_characters(self):
        for path in files():
            lines = path.read_text().split("\n")
            self.assertLessEqual(len(lines), 400, path)
            for number, line in enumerate(lines, 1):
                self.assertLessEqual(len(line), 120, (path, number))
                self.assertTrue(all(" " <= sign <= "~" for sign in line), (path, number))
                self.assertEqual(line, line.rstrip(), (path, number))

    def test_functions_have_at_most_40_lines(self):
        for name, tree in trees().items():
            for node in ast.walk(tree):
                if isinstance(node, ast.FunctionDef):
                    self.assertLessEqual(node.end_lineno - node.lineno + 1, 40, (name, node.name))

    def test_each_file_class_and_public_function_has_a_docstring(self):
        for name, tree in trees().items():
            self.assertTrue(ast.get_docstring(tree), name)
            for node in ast.walk(tree):
                if isinstance(node, ast.ClassDef):
                    self.assertTrue(ast.get_docstring(node), node.name)
                elif isinstance(node, ast.FunctionDef) and not node.name.startswith("_"):
                    self.assertTrue(ast.get_docstring(node), (name, node.name))

    def test_module_level(self):
        for name, tree in trees().items():
            kinds = [type(node).__name__ for node in tree.body]
            self.assertEqual(kinds[0], "Expr", name)
            self.assertLessEqual(set(kinds[1:]), {"ImportFrom", "ClassDef", "FunctionDef"}, name)
            others = [at for at, kind in enumerate(kinds) if kind != "ImportFrom"]
            self.assertTrue(all(at < others[1] for at, kind in enumerate(kinds) if kind == "ImportFrom"), name)


class TestImports(unittest.TestCase):

    def test_they_name_the_file_that_defines_the_name(self):
        defined = {name: [getattr(node, "name", None) for node in tree.body] for name, tree in trees().items()}
        for name, tree in trees().items():
            for node in ast.walk(tree):
                if isinstance(node, ast.ImportFrom):
                    self.assertEqual((node.level, node.module.split(".")[0]), (0, "surerails"), name)
                    for imported in node.names:
                        self.assertIsNone(imported.asname)
                        self.assertIn(imported.name, defined[node.module.split(".")[1]])

    def test_every_import_is_used(self):
        for name, tree in trees().items():
            read = [node.id for node in ast.walk(tree) if isinstance(node, ast.Name)]
            for imported in imports_of(tree):
                self.assertIn(imported, read, name)

    def test_no_files_import_from_each_other(self):
        links = {name: {file.split(".")[1] for file in imports_of(tree).values()} for name, tree in trees().items()}
        while links:
            free = [name for name, others in links.items() if not others & set(links)]
            self.assertTrue(free, links)
            links = {name: others for name, others in links.items() if name not in free}


class TestWords(unittest.TestCase):

    def test_nodes(self):
        for name, tree in trees().items():
            for node in ast.walk(tree):
                self.assertIn(type(node).__name__, NODES, (name, getattr(node, "lineno", 0)))

    def test_names_are_bound_once_and_shadow_nothing(self):
        for name, tree in trees().items():
            top = [node.name for node in tree.body if isinstance(node, (ast.ClassDef, ast.FunctionDef))]
            known = top + list(imports_of(tree))
            self.assertEqual(len(known), len(set(known)), name)
            for bound in list(bound_names(tree)) + top:
                self.assertNotIn(bound, dir(builtins), name)
            for bound in bound_names(tree):
                self.assertNotIn(bound, known, name)

    def test_barred_names_and_words(self):
        for name, tree in trees().items():
            for node in ast.walk(tree):
                for field in ("name", "id", "attr", "arg"):
                    word = getattr(node, field, None)
                    if isinstance(word, str):
                        self.assertNotIn(word, BARRED_NAMES + BARRED_WORDS, name)
                        self.assertFalse(word.startswith(BARRED_BEGINNINGS), (name, word))
                        self.assertNotIn(word.rstrip("_0123456789"), BARRED_STEMS, name)
                        self.assertTrue(word in DUNDERS or not word.startswith("__"), (name, word))
                if isinstance(node, ast.Constant) and isinstance(node.value, str) and node.col_offset > 4:
                    self.assertNotIn("%", node.value)

    def test_builtins_and_methods(self):
        own = {method for node in classes() for method in methods_and_attributes(node)[0]}
        for name, tree in trees().items():
            for node in ast.walk(tree):
                if isinstance(node, ast.Name) and node.id in dir(builtins):
                    self.assertIn(node.id, BUILTINS, name)
                if isinstance(node, ast.Call) and isinstance(node.func, ast.Attribute):
                    self.assertIn(node.func.attr, sorted(own) + METHODS, (name, node.lineno))

    def test_only_none_true_and_false_are_asked_by_is(self):
        for name, tree in trees().items():
            for node in ast.walk(tree):
                if isinstance(node, ast.Compare):
                    for sign, other in zip(node.ops, node.comparators):
                        if isinstance(sign, (ast.Is, ast.IsNot)):
                            self.assertIn(getattr(other, "value", "no literal"), (None, True, False), name)

    def test_underscore_is_never_read(self):
        for name, tree in trees().items():
            for node in ast.walk(tree):
                if isinstance(node, ast.Name) and node.id == "_":
                    self.assertIsInstance(node.ctx, ast.Store, name)

    def test_no_decorators_and_no_annotations(self):
        for name, tree in trees().items():
            for node in ast.walk(tree):
                self.assertFalse(getattr(node, "decorator_list", []), name)
                self.assertIsNone(getattr(node, "annotation", None), name)
                self.assertIsNone(getattr(node, "returns", None), name)


class TestClasses(unittest.TestCase):

    def test_no_name_is_a_method_and_an_attribute_of_one_class(self):
        for node in classes():
            methods, attributes = methods_and_attributes(node)
            self.assertEqual(len(methods), len(set(methods)), node.name)
            self.assertFalse(set(methods) & set(attributes), node.name)

    def test_no_method_or_attribute_is_called_like_one_of_a_builtin_value(self):
        taken = {name for kind in (str, int, list, dict, set, bytes, tuple) for name in dir(kind)} - {"index"}
        for node in classes():
            methods, attributes = methods_and_attributes(node)
            for name in methods + attributes:
                self.assertTrue(name in DUNDERS or name not in taken, (node.name, name))

    def test_each_attribute_that_is_read_is_assigned_by_a_class(self):
        known = {name for node in classes() for names in methods_and_attributes(node) for name in names}
        for name, tree in trees().items():
            for node in ast.walk(tree):
                if isinstance(node, ast.Attribute):
                    self.assertIn(node.attr, sorted(known) + METHODS, (name, node.lineno))

    def test_the_methods_with_underscores_are_allowed_ones(self):
        for node in classes():
            for method in methods_and_attributes(node)[0]:
                self.assertTrue(method in DUNDERS or not method.startswith("__"), (node.name, method))

    def test_no_class_is_read_but_to_call_it_to_derive_from_it_or_to_ask_for_it(self):
        names = {node.name for node in classes()}
        for name, tree in trees().items():
            allowed = set()
            for node in ast.walk(tree):
                if isinstance(node, ast.Call):
                    allowed.add(node.func)
                    if getattr(node.func, "id", None) == "isinstance":
                        allowed.add(node.args[1])
                elif isinstance(node, ast.ClassDef):
                    allowed.update(node.bases)
            for node in ast.walk(tree):
                if isinstance(node, ast.Name) and node.id in names:
                    self.assertIn(node, allowed, (name, node.lineno))

    def test_raise_creates_its_error_on_the_spot(self):
        for name, tree in trees().items():
            for node in ast.walk(tree):
                if isinstance(node, ast.Raise):
                    self.assertIsInstance(node.exc, ast.Call, name)
                    self.assertEqual(imports_of(tree)[node.exc.func.id], "surerails.errors")


if __name__ == "__main__":
    unittest.main()
