"""The files of the package keep to the subset of the language, as far as a short test can see."""

import ast
import builtins
import pathlib
import unittest

PACKAGE = pathlib.Path(__file__).resolve().parent.parent / "sortpost"
BUILTINS = set("""len range enumerate zip min max sum abs sorted reversed int str bool list tuple dict isinstance ord repr
any all divmod ValueError super""".split())
METHODS = set("""append clear copy count endswith extend find get index insert isalnum isalpha isdigit islower isspace
isupper items join keys ljust lower lstrip partition pop remove replace reverse rfind rjust rpartition rsplit rstrip
setdefault split splitlines startswith strip update upper values zfill bit_length""".split())
BARRED = set("""type typing enum Enum IntEnum Flag Generic Protocol ABC namedtuple NamedTuple TypedDict register mro elements
open input law version_info with_traceback add_note""".split())
STATEMENTS = (ast.Assign, ast.AugAssign, ast.If, ast.While, ast.For, ast.Return, ast.Break, ast.Continue, ast.Pass, ast.Raise,
              ast.Delete, ast.Expr, ast.FunctionDef, ast.ClassDef, ast.ImportFrom)
EXPRESSIONS_NOT_USED = (ast.Set, ast.SetComp, ast.Lambda, ast.Await, ast.Yield, ast.YieldFrom, ast.NamedExpr, ast.Div, ast.MatMult)


def trees():
    for path in sorted(PACKAGE.rglob("*")):
        if "__pycache__" not in path.parts:
            yield path, ast.parse(path.read_text())


def built_in_methods():
    kinds = (str, int, list, dict, set, bytes, tuple)
    return {word for kind in kinds for word in dir(kind) if not word.startswith("_")}


class Language(unittest.TestCase):

    def test_files(self):
        for path, tree in trees():
            text = path.read_text()
            self.assertTrue(path.suffix == ".py" and path.stem.replace("_", "").isalnum() and path.stem.islower(), path)
            self.assertTrue(all(sign == "\n" or " " <= sign <= "~" for sign in text), path)
            lines = text.split("\n")
            self.assertLessEqual(len(lines), 399, path)
            self.assertLessEqual(max(map(len, lines)), 120, path)
            self.assertIsNotNone(ast.get_docstring(tree), path)
            for node in ast.walk(tree):
                if isinstance(node, ast.FunctionDef):
                    self.assertLessEqual(node.end_lineno - node.lineno + 1, 40, (path, node.name))
                    self.assertEqual((node.decorator_list, node.returns), ([], None), (path, node.name))
                    self.assertTrue(node.name == "__init__" or not node.name.startswith("_"), (path, node.name))

    def test_statements_and_expressions(self):
        for path, tree in trees():
            for node in ast.walk(tree):
                where = path.name, getattr(node, "lineno", None)
                if isinstance(node, ast.stmt):
                    self.assertIsInstance(node, STATEMENTS, where)
                self.assertNotIsInstance(node, EXPRESSIONS_NOT_USED, where)
                if isinstance(node, ast.Constant):
                    self.assertNotIsInstance(node.value, (float, complex), where)
                    if isinstance(node.value, str):
                        self.assertNotIn(chr(37), node.value, where)
                if isinstance(node, ast.Compare) and isinstance(node.ops[0], (ast.Is, ast.IsNot)):
                    self.assertIn(node.comparators[0].value, (None, True, False), where)
                if isinstance(node, ast.Call):
                    self.assertTrue(all(word.arg in ("key", "reverse") for word in node.keywords), where)

    def test_names(self):
        own = {node.name for _, tree in trees() for node in ast.walk(tree) if isinstance(node, ast.FunctionDef)}
        for path, tree in trees():
            bound = {node.id for node in ast.walk(tree) if isinstance(node, ast.Name) and isinstance(node.ctx, ast.Store)}
            bound |= {node.arg for node in ast.walk(tree) if isinstance(node, ast.arg)}
            bound |= {node.name for node in ast.walk(tree) if isinstance(node, (ast.FunctionDef, ast.ClassDef))}
            imported = {word.name for node in ast.walk(tree) if isinstance(node, ast.ImportFrom) for word in node.names}
            classes = {node.name for node in ast.walk(tree) if isinstance(node, ast.ClassDef)}
            read = {node.id for node in ast.walk(tree) if isinstance(node, ast.Name) and isinstance(node.ctx, ast.Load)}
            self.assertFalse(imported - read, path)
            self.assertFalse(bound & set(dir(builtins)), path)
            self.assertFalse(bound & imported, path)
            self.assertFalse((bound | imported) & BARRED, path)
            for node in ast.walk(tree):
                where = path.name, getattr(node, "lineno", None)
                if isinstance(node, ast.Name) and node.id not in bound | imported | classes:
                    self.assertIn(node.id, BUILTINS, where)
                if isinstance(node, ast.Attribute):
                    self.assertNotIn(node.attr, BARRED, where)
                    if isinstance(node.ctx, ast.Store):
                        self.assertNotIn(node.attr, METHODS, where)
                if isinstance(node, ast.Call) and isinstance(node.func, ast.Attribute):
                    self.assertIn(node.func.attr, METHODS | own | {"__init__"}, where)
                if isinstance(node, ast.FunctionDef):
                    self.assertNotIn(node.name, built_in_methods() - METHODS - {"sort"}, where)

    def test_names_of_a_class_are_methods_or_attributes(self):
        for path, tree in trees():
            for kind in tree.body:
                if isinstance(kind, ast.ClassDef):
                    methods = [node.name for node in kind.body if isinstance(node, ast.FunctionDef)]
                    stored = {node.attr for node in ast.walk(kind)
                              if isinstance(node, ast.Attribute) and isinstance(node.ctx, ast.Store)}
                    self.assertEqual(len(methods), len(set(methods)), (path, kind.name))
                    self.assertFalse(stored & set(methods), (path, kind.name))

    def test_imports_name_the_defining_file_and_run_no_ring(self):
        defined, needs = {}, {}
        for path, tree in trees():
            names = {node.name for node in tree.body if isinstance(node, (ast.FunctionDef, ast.ClassDef))}
            names |= {target.id for node in tree.body if isinstance(node, ast.Assign) for target in node.targets}
            defined["sortpost." + path.stem] = names
            needs["sortpost." + path.stem] = [node for node in ast.walk(tree) if isinstance(node, ast.ImportFrom)]
        for path, nodes in needs.items():
            for node in nodes:
                self.assertTrue({word.name for word in node.names} <= defined[node.module], (path, node.lineno))
                self.assertTrue(all(word.asname is None for word in node.names), (path, node.lineno))
        done = set()
        while len(done) < len(needs):
            ready = {path for path, nodes in needs.items() if all(node.module in done for node in nodes)} - done
            self.assertTrue(ready, sorted(set(needs) - done))
            done |= ready

    def test_module_level(self):
        for path, tree in trees():
            for node in tree.body[1:]:
                if isinstance(node, ast.Assign):
                    self.assertEqual(len(node.targets), 1, path)
                    ast.literal_eval(node.value)
                else:
                    self.assertIsInstance(node, (ast.ImportFrom, ast.FunctionDef, ast.ClassDef), (path, node.lineno))


class Interface(unittest.TestCase):

    def test_each_name_is_defined_in_its_file(self):
        listed = {
            "errors": "SortError BadRule BadText BadLetter BadName BadHouse TooMany NoLetter", "rules": "written names",
            "sorting": "sort acting", "all_letters": "apart acts counts thin unfiled reaching", "houses": "ring House",
        }
        found = {path.stem: [node.name for node in tree.body if isinstance(node, (ast.FunctionDef, ast.ClassDef))]
                 for path, tree in trees()}
        for file, names in listed.items():
            for name in names.split():
                self.assertIn(name, found[file])


if __name__ == "__main__":
    unittest.main()
