"""The form of the package: its files, its interface, and those rules of LANGUAGE.md that are easily seen."""

import ast
import pathlib
import re
import unittest

import sameruns

FOLDER = pathlib.Path(sameruns.__file__).parent
FILES = sorted(FOLDER.rglob("*.py"))

# What DOC.md lists for each file that has landed: functions and names, and classes with their methods.
INTERFACE = {
    "basics/words.py": (["LEAST", "GREATEST", "wrap", "unsigned", "high", "low"], {}),
    "basics/operations.py": (["OPERATIONS", "result"], {}),
    "basics/runs.py": ([], {"Run": ["shown"]}),
    "lang/tokens.py": (["tokens"], {}),
    "lang/trees.py": (["levels", "nodes", "numbered"], {}),
    "lang/units.py": (["parted", "whole"], {"Unit": ["parts"]}),
    "lang/unitreading.py": (["read_unit", "lines"], {}),
    "lang/writing.py": (["write_unit", "write_expression"], {}),
    "lang/checking.py": (["check_unit"], {}),
    "lang/programs.py": (["check_program"], {}),
    "source/source.py": (["run_source"], {"Source": ["go", "run"]}),
    "middle/deeds.py": (["reads", "assigns", "targets", "is_plain"], {}),
    "middle/flows.py": ([], {"Flow": ["parts"], "Middle": ["parts", "flow", "joined"]}),
    "middle/lowering.py": (["lower"], {}),
    "middle/wanted.py": (["wanted", "wanted_behind"], {}),
    "middle/walking.py": (["run_middle"], {
        "Walker": ["go", "run", "place", "variables", "local_items", "opened", "global_word", "global_items"]}),
    "papers/facts.py": (["implied", "after_deed", "known_word"], {}),
    "papers/skips.py": (["padded", "swept"], {}),
    "papers/judge.py": (["judge"], {"Paper": ["parts"]}),
    "papers/known.py": (["known"], {}),
    "papers/common.py": (["common"], {}),
    "papers/dead.py": (["dead"], {}),
    "papers/fixed.py": (["fixed", "loops"], {}),
    "papers/laid.py": (["can_lay", "laid_at", "laid"], {}),
    "papers/improving.py": (["PASSES", "improved"], {}),
    "homes/cells.py": (["REGISTERS", "LOST"], {}),
    "homes/fitting.py": (["fits"], {}),
    "homes/choosing.py": (["choose"], {}),
    "homes/renaming.py": (["renamed"], {}),
    "homes/moving.py": (["in_turn"], {}),
    "rows/coding.py": (["encode", "decode"], {}),
    "rows/rowtext.py": (["row_text", "read_row"], {}),
    "rows/layout.py": ([], {"Layout": ["offset", "array_offset"]}),
    "rows/deedrows.py": (["deed_lines"], {}),
    "rows/emitting.py": (["emitted"], {"Piece": []}),
    "objects/objects.py": ([], {"Object": ["parts", "size", "__add__", "gathered"]}),
    "objects/objecttext.py": (["listing"], {}),
    "objects/objectread.py": (["read_listing"], {}),
    "objects/places.py": (["filled"], {}),
    "objects/images.py": ([], {"Image": ["parts", "size", "mark"]}),
    "objects/linking.py": (["link"], {}),
    "machine/machine.py": (["run_image"], {"Machine": ["go", "run", "address", "falls", "holds", "cell", "story"]}),
    "whole/compiling.py": (["compiled", "certified"], {"Certificate": ["parts"]}),
    "whole/certificates.py": (["accepts"], {}),
    "whole/shop.py": ([], {
        "Shop": ["put", "drop", "undo", "order", "text", "made", "compilations", "image", "image_with"]}),
}
ERRORS = """BadText BadName Twice BadLength BadNumber Stray Unknown Unlike Missing NoMain BadFlow BadSpot BadSite BadRow BadLine BadDepth
BadBase BadPass TooMany BadFree NoUnit""".split()
BUILTINS = """len range enumerate zip min max sum abs sorted reversed int str bool list tuple dict set isinstance any all
ValueError""".split()
BARRED = ("register", "mro", "elements", "open", "input", "law", "type", "typing", "eval", "exec", "global", "async",
          "lambda_", "print", "id", "vars", "dir", "globals", "locals", "map", "filter", "round", "hash", "chr")


def trees():
    for path in FILES:
        yield path, ast.parse(path.read_text())


class FormTest(unittest.TestCase):
    def test_interface_is_defined_where_it_is_listed(self):
        for name, (plain, classes) in INTERFACE.items():
            body = ast.parse((FOLDER / name).read_text()).body
            defined = [row.name for row in body if isinstance(row, ast.FunctionDef)]
            defined += [target.id for row in body if isinstance(row, ast.Assign) for target in row.targets]
            self.assertLessEqual(set(plain), set(defined), name)
            found = {row.name: row for row in body if isinstance(row, ast.ClassDef)}
            for class_name, methods in classes.items():
                own = [row.name for row in found[class_name].body if isinstance(row, ast.FunctionDef)]
                self.assertLessEqual({"__init__", *methods}, set(own), class_name)

    def test_the_errors_are_defined_in_their_file(self):
        body = ast.parse((FOLDER / "basics/errors.py").read_text()).body
        self.assertEqual([row.name for row in body if isinstance(row, ast.ClassDef)], ["RunsError", *ERRORS])

    def test_methods_are_called_where_they_stand(self):
        methods, properties = set(), set()
        for _, tree in trees():
            for node in ast.walk(tree):
                for row in node.body if isinstance(node, ast.ClassDef) else []:
                    if isinstance(row, ast.FunctionDef):
                        is_property = [mark.id for mark in row.decorator_list] == ["property"]
                        (properties if is_property else methods).add(row.name)
        self.assertEqual(properties, {"size", "address", "falls"})
        for path, tree in trees():
            called = {id(node.func) for node in ast.walk(tree) if isinstance(node, ast.Call)}
            for node in ast.walk(tree):
                if isinstance(node, ast.Attribute):
                    self.assertTrue(node.attr not in methods or id(node) in called, (path, node.attr))
                    self.assertFalse(node.attr in properties and isinstance(node.ctx, ast.Store), (path, node.attr))

    def test_stars_stand_over_lists_and_names(self):
        """No star over a call of zip and its kin, and behind a star in a call only names, their attributes and literals."""
        for path, tree in trees():
            for node in ast.walk(tree):
                if isinstance(node, ast.Starred):
                    lazy = isinstance(node.value, ast.Call) and getattr(node.value.func, "id", "") in ("zip", "enumerate", "reversed", "range", "map")
                    self.assertFalse(lazy, (path, node.lineno))
                if isinstance(node, ast.Call) and any(isinstance(one, ast.Starred) for one in node.args):
                    first = [isinstance(one, ast.Starred) for one in node.args].index(True)
                    for one in [*node.args[first + 1:], *[word.value for word in node.keywords]]:
                        is_plain = isinstance(one, (ast.Name, ast.Constant)) or isinstance(one, ast.Attribute) and isinstance(one.value, ast.Name)
                        self.assertTrue(is_plain, (path, node.lineno))

    def test_files(self):
        self.assertLessEqual(len(FILES), 100)
        for path in FOLDER.rglob("*"):
            if path.is_dir() and path.name != "__pycache__":
                self.assertTrue((path / "__init__.py").exists(), path)
                self.assertFalse((path.parent / (path.name + ".py")).exists(), path)
            elif path.is_file() and path.parent.name != "__pycache__":
                self.assertRegex(path.name, r"^[a-z0-9_]+\.py$")

    def test_sizes_and_characters(self):
        for path in FILES:
            text = path.read_text()
            self.assertRegex(text, r"\A[ -~\n]*\Z", path)
            rows = text.split("\n")
            self.assertLessEqual(len(rows), 399, path)
            self.assertLessEqual(max([len(row) for row in rows]), 120, path)

    def test_functions_are_small_and_told(self):
        for path, tree in trees():
            self.assertTrue(ast.get_docstring(tree), path)
            for node in ast.walk(tree):
                if isinstance(node, (ast.FunctionDef, ast.ClassDef)):
                    self.assertTrue(ast.get_docstring(node) or node.name == "__init__", (path, node.name))
                if isinstance(node, ast.FunctionDef):
                    self.assertLessEqual(node.end_lineno - node.lineno + 1, 40, (path, node.name))

    def test_imports(self):
        for path, tree in trees():
            for node in ast.walk(tree):
                self.assertNotIsInstance(node, ast.Import, path)
                if isinstance(node, ast.ImportFrom):
                    self.assertRegex(node.module, r"^sameruns\.", path)
                    origin = FOLDER.parent / (node.module.replace(".", "/") + ".py")
                    defined = ast.parse(origin.read_text()).body
                    names = [row.name for row in defined if isinstance(row, (ast.FunctionDef, ast.ClassDef))]
                    names += [row.targets[0].id for row in defined if isinstance(row, ast.Assign)]
                    for alias in node.names:
                        self.assertIsNone(alias.asname)
                        self.assertIn(alias.name, names, path)

    def test_no_local_name_is_an_import_or_a_builtin(self):
        for path, tree in trees():
            imported = [alias.name for node in ast.walk(tree) if isinstance(node, ast.ImportFrom) for alias in node.names]
            classes = [node.name for node in tree.body if isinstance(node, ast.ClassDef)]
            for node in ast.walk(tree):
                names = [node.id] if isinstance(node, ast.Name) and isinstance(node.ctx, ast.Store) else []
                names += [node.arg] if isinstance(node, ast.arg) else []
                for name in names:
                    self.assertNotIn(name, [*imported, *classes, *BUILTINS, *BARRED], path)

    def test_names_and_strings(self):
        for path, tree in trees():
            for node in ast.walk(tree):
                if isinstance(node, ast.Name):
                    self.assertNotIn(node.id, BARRED, path)
                if isinstance(node, ast.Attribute):
                    self.assertFalse(node.attr.startswith("_"), path)
                if isinstance(node, ast.Constant) and isinstance(node.value, str):
                    self.assertNotIn("%", node.value, path)
                self.assertNotIsInstance(node, (ast.Global, ast.AsyncFunctionDef, ast.Try, ast.SetComp, ast.Div))
                if isinstance(node, ast.Constant):
                    self.assertNotIsInstance(node.value, (float, complex, bytes), path)

    def test_no_attribute_is_a_method_of_some_class(self):
        methods, attributes = set(), set()
        for _, tree in trees():
            for node in ast.walk(tree):
                if isinstance(node, ast.ClassDef):
                    methods |= {row.name for row in node.body if isinstance(row, ast.FunctionDef)}
                if isinstance(node, ast.Attribute) and isinstance(node.ctx, ast.Store):
                    attributes.add(node.attr)
        self.assertEqual(methods & attributes, set())
        self.assertEqual(attributes & set(dir(list) + dir(dict) + dir(set) + ["args", "format"]) - {"count", "index"}, set())

    def test_no_two_files_import_from_each_other(self):
        edges = {}
        for path, tree in trees():
            name = ".".join(path.relative_to(FOLDER.parent).with_suffix("").parts)
            edges[name] = [node.module for node in ast.walk(tree) if isinstance(node, ast.ImportFrom)]
        done, open_names = set(), []

        def visit(name):
            self.assertNotIn(name, open_names)
            if name not in done:
                open_names.append(name)
                for other in edges[name]:
                    visit(other)
                done.add(open_names.pop())

        for name in edges:
            visit(name)

    def test_barred_words(self):
        for path in FILES:
            code = re.sub(r'"""[^"]*"""|#[^\n]*', "", path.read_text())
            self.assertNotRegex(code, r"\b(type|typing|enum|register|elements|dataclass|overload)\b", path)


if __name__ == "__main__":
    unittest.main()
