"""What can be read off the files of the package of the rules of LANGUAGE.md."""

import ast
import builtins
import io
import pathlib
import re
import tokenize
import unittest

ROOT = pathlib.Path(__file__).parent.parent / "seamlayers"
FILES = sorted(ROOT.rglob("*.py"))

BUILTINS = set("""len range enumerate zip min max sum abs sorted reversed int str bool list tuple dict set isinstance
ord repr any all divmod Exception ValueError TypeError KeyError IndexError LookupError ZeroDivisionError
ArithmeticError OverflowError RuntimeError NotImplementedError StopIteration NotImplemented property map""".split())

LIBRARY = {"math": {"gcd", "lcm", "isqrt", "comb", "perm", "factorial"}, "heapq": {"heappush", "heappop", "heapify"},
           "itertools": {"product", "combinations", "permutations", "chain", "accumulate", "pairwise"},
           "collections": {"defaultdict"}}

METHODS = set("""append clear copy count endswith extend find get index insert isalnum isalpha isdigit islower
isspace isupper items join keys ljust lower lstrip partition pop remove replace reverse rfind rjust rpartition
rsplit rstrip setdefault split splitlines startswith strip update upper values zfill bit_length add discard""".split())

BARRED = set("""register mro elements open input law version_info with_traceback add_note type typing
typing_extensions enum Enum IntEnum StrEnum Flag IntFlag Generic Protocol ABC ABCMeta namedtuple NamedTuple TypedDict
TYPE_CHECKING abstractmethod getattr hasattr setattr eval exec compile globals locals vars dir id help
os sys gc""".split())

NODES = (
    ast.Module, ast.Expr, ast.Constant, ast.ImportFrom, ast.alias, ast.FunctionDef, ast.arguments, ast.arg, ast.ClassDef,
    ast.Return, ast.Assign, ast.AugAssign, ast.If, ast.While, ast.For, ast.Break, ast.Continue, ast.Pass, ast.Raise,
    ast.Delete, ast.Try, ast.ExceptHandler, ast.Name, ast.Load, ast.Store, ast.Del, ast.Attribute, ast.Subscript,
    ast.Slice, ast.Call, ast.keyword, ast.List, ast.Tuple, ast.Dict, ast.Set, ast.Starred, ast.ListComp, ast.DictComp,
    ast.SetComp, ast.comprehension, ast.BinOp, ast.UnaryOp, ast.BoolOp, ast.Compare, ast.IfExp, ast.And, ast.Or,
    ast.Add, ast.Sub, ast.Mult, ast.FloorDiv, ast.Mod, ast.Pow, ast.LShift, ast.RShift, ast.BitAnd, ast.BitOr,
    ast.BitXor, ast.Not, ast.USub, ast.Invert, ast.Eq, ast.NotEq, ast.Lt, ast.LtE, ast.Gt, ast.GtE, ast.Is, ast.IsNot,
    ast.In, ast.NotIn, ast.Lambda,
)

DUNDER_METHODS = {"__init__", "__eq__"}


def tree_of(path):
    return ast.parse(path.read_text(encoding="ascii"))


def module_of(path):
    parts = path.relative_to(ROOT.parent).with_suffix("").parts
    return ".".join(parts[:-1] if parts[-1] == "__init__" else parts)


def functions_of(tree):
    return [node for node in ast.walk(tree) if isinstance(node, ast.FunctionDef)]


def own_methods():
    return {node.name for path in FILES for found in ast.walk(tree_of(path)) if isinstance(found, ast.ClassDef)
            for node in found.body if isinstance(node, ast.FunctionDef)}


def own_attributes():
    return {node.attr for path in FILES for node in ast.walk(tree_of(path))
            if isinstance(node, ast.Attribute) and isinstance(node.ctx, ast.Store)}


def bound_in(function):
    """Parameters, local variables and nested functions of a function."""
    every = function.args.posonlyargs + function.args.args + function.args.kwonlyargs
    every += [one for one in (function.args.vararg, function.args.kwarg) if one]
    found = {one.arg for one in every}
    for node in ast.walk(function):
        if isinstance(node, ast.Name) and isinstance(node.ctx, ast.Store):
            found.add(node.id)
        if isinstance(node, ast.FunctionDef) and node is not function:
            found.add(node.name)
    return found


class Files(unittest.TestCase):
    def test_nothing_else_in_the_folder(self):
        for path in ROOT.rglob("*"):
            if "__pycache__" in path.parts:
                continue
            self.assertTrue(path.is_dir() or path.suffix == ".py", path)
            self.assertTrue(re.fullmatch(r"[a-z0-9_]+(\.py)?", path.name), path)
        self.assertLessEqual(len(FILES), 100)

    def test_characters_and_sizes(self):
        for path in FILES:
            text = path.read_bytes().decode("ascii")
            self.assertFalse(re.search(r"[^ -~\n]", text), path)
            lines = text.split("\n")
            self.assertLessEqual(len(lines) - 1, 399, path)
            for at, line in enumerate(lines):
                self.assertLessEqual(len(line), 120, (path, at + 1))
                self.assertEqual(line, line.rstrip(), (path, at + 1))
            for node in functions_of(tree_of(path)):
                self.assertLessEqual(node.end_lineno - node.lineno + 1, 40, (path, node.name))

    def test_only_listed_parts_of_the_language(self):
        for path in FILES:
            for node in ast.walk(tree_of(path)):
                self.assertIsInstance(node, NODES, (path, getattr(node, "lineno", 0)))

    def test_module_level(self):
        for path in FILES:
            for node in tree_of(path).body:
                self.assertIsInstance(node, (ast.Expr, ast.ImportFrom, ast.FunctionDef, ast.ClassDef, ast.Assign))
                if isinstance(node, ast.Expr):
                    self.assertIsInstance(node.value.value, str)
                if isinstance(node, ast.Assign):
                    self.assertTrue(len(node.targets) == 1 and isinstance(node.targets[0], ast.Name), path)

    def test_words_and_strings(self):
        for path in FILES:
            for token in tokenize.generate_tokens(io.StringIO(path.read_text(encoding="ascii")).readline):
                if token.type == tokenize.NAME:
                    self.assertNotIn(token.string, BARRED, (path, token.start))
                    self.assertFalse(re.match(r"_wall|_pe_|_dcw_|_enum_|_cm_|_lay_|_law_|_stub_|_sre", token.string))
                if token.type == tokenize.STRING:
                    self.assertFalse("%" in token.string or re.search(r"\\[^nt\\'\"]", token.string), token.start)
                self.assertNotIn("_WallAttr", token.string)


class Imports(unittest.TestCase):
    def test_they_name_the_defining_file(self):
        defined = {}
        for path in FILES:
            body = tree_of(path).body
            defined[module_of(path)] = {node.name for node in body if isinstance(node, (ast.FunctionDef, ast.ClassDef))}
            defined[module_of(path)] |= {node.targets[0].id for node in body if isinstance(node, ast.Assign)}
        for path in FILES:
            for node in ast.walk(tree_of(path)):
                if isinstance(node, ast.ImportFrom):
                    self.assertEqual(node.level, 0)
                    known = LIBRARY.get(node.module) or defined[node.module]
                    for alias in node.names:
                        self.assertIn(alias.name, known, path)
                        self.assertIsNone(alias.asname, path)

    def test_all_are_used_and_bound_once(self):
        for path in FILES:
            tree = tree_of(path)
            names = [alias.name for node in tree.body if isinstance(node, ast.ImportFrom) for alias in node.names]
            names += [node.name for node in tree.body if isinstance(node, (ast.FunctionDef, ast.ClassDef))]
            names += [node.targets[0].id for node in tree.body if isinstance(node, ast.Assign)]
            self.assertEqual(len(names), len(set(names)), path)
            used = {node.id for node in ast.walk(tree) if isinstance(node, ast.Name)}
            for node in tree.body:
                for alias in node.names if isinstance(node, ast.ImportFrom) else []:
                    self.assertIn(alias.name, used, path)

    def test_no_rounds(self):
        needs = {module_of(path): {node.module for node in tree_of(path).body if isinstance(node, ast.ImportFrom)}
                 for path in FILES}
        # What lies above a file counts as imported with it.
        needs = {name: {one for one in found if one in needs} | {"seamlayers"} - {name}
                 for name, found in needs.items()}
        while needs:
            free = [name for name, found in needs.items() if not found]
            self.assertTrue(free, needs)
            needs = {name: found - set(free) for name, found in needs.items() if name not in free}


class Names(unittest.TestCase):
    def test_no_name_has_another_meaning(self):
        taken = set(dir(builtins))
        for path in FILES:
            tree = tree_of(path)
            imported = {alias.name for node in tree.body if isinstance(node, ast.ImportFrom) for alias in node.names}
            classes = {node.name for node in tree.body if isinstance(node, ast.ClassDef)}
            for node in functions_of(tree):
                self.assertFalse(bound_in(node) & (imported | classes | taken), (path, node.name))
            for node in tree.body:
                if isinstance(node, (ast.FunctionDef, ast.ClassDef)):
                    self.assertNotIn(node.name, taken, path)

    def test_only_listed_builtins(self):
        for path in FILES:
            tree = tree_of(path)
            for node in ast.walk(tree):
                if isinstance(node, ast.Name) and isinstance(node.ctx, ast.Load) and hasattr(builtins, node.id):
                    self.assertIn(node.id, BUILTINS, (path, node.lineno))
                if isinstance(node, ast.Name) and node.id == "_":
                    self.assertIsInstance(node.ctx, ast.Store, (path, node.lineno))

    def test_only_listed_methods(self):
        own = own_methods() | own_attributes()
        for path in FILES:
            for node in ast.walk(tree_of(path)):
                if isinstance(node, ast.Attribute):
                    self.assertIn(node.attr, METHODS | own, (path, node.lineno))

    def test_double_underscores(self):
        for path in FILES:
            for node in functions_of(tree_of(path)):
                self.assertTrue(not node.name.startswith("__") or node.name in DUNDER_METHODS, (path, node.name))
                decorators = [ast.unparse(decorator) for decorator in node.decorator_list]
                self.assertIn(decorators, ([], ["property"]), (path, node.name))


class Expressions(unittest.TestCase):
    def nodes(self, *kinds):
        return [(path, node) for path in FILES for node in ast.walk(tree_of(path)) if isinstance(node, kinds)]

    def test_numbers(self):
        for path, node in self.nodes(ast.Constant):
            self.assertNotIsInstance(node.value, (float, complex), (path, node.lineno))
        for path, node in self.nodes(ast.BinOp):
            if isinstance(node.op, ast.Pow):
                self.assertIsInstance(node.right, ast.Constant, (path, node.lineno))

    def test_is(self):
        for path, node in self.nodes(ast.Compare):
            for sign, right in zip(node.ops, node.comparators):
                if isinstance(sign, (ast.Is, ast.IsNot)):
                    self.assertTrue(isinstance(right, ast.Constant) and right.value in (None, True, False))

    def test_sets_stand_where_they_are_used(self):
        for path in FILES:
            fine = []
            for node in ast.walk(tree_of(path)):
                if isinstance(node, ast.Call) and isinstance(node.func, ast.Name) and node.func.id in ("sorted", "len"):
                    fine += node.args
                if isinstance(node, ast.Compare):
                    fine += node.comparators + [node.left]
            told = {(one.lineno, one.col_offset) for one in fine}
            for node in ast.walk(tree_of(path)):
                made = isinstance(node, ast.Call) and isinstance(node.func, ast.Name) and node.func.id == "set"
                if made or isinstance(node, (ast.Set, ast.SetComp)):
                    self.assertIn((node.lineno, node.col_offset), told, path)

    def test_properties_change_nothing(self):
        for path, node in self.nodes(ast.FunctionDef):
            if node.decorator_list:
                self.assertEqual([one.arg for one in node.args.args], ["self"], (path, node.name))
                self.assertEqual([type(one) for one in node.body], [ast.Expr, ast.Return], (path, node.name))
                self.assertNotIn(node.name, METHODS | own_attributes(), path)
                for inner in ast.walk(node.body[1]):
                    if isinstance(inner, ast.Call):
                        self.assertIn(ast.unparse(inner.func), ("list", "len"), (path, node.name))

    def test_parameters_behind_a_star(self):
        for path, node in self.nodes(ast.FunctionDef, ast.Lambda):
            if node.args.kwonlyargs:
                self.assertIsInstance(node, ast.FunctionDef)
                self.assertTrue(node.args.args and node.name not in METHODS, (path, node.name))
                self.assertFalse(node.name.startswith("__"), (path, node.name))

    def test_raised_on_the_spot(self):
        for path, node in self.nodes(ast.Raise):
            self.assertIsInstance(node.exc, ast.Call, (path, node.lineno))
            self.assertIsInstance(node.exc.func, ast.Name, (path, node.lineno))

    def test_what_a_loop_goes_over_is_not_changed_in_it(self):
        for path, node in self.nodes(ast.For):
            if not isinstance(node.iter, (ast.Name, ast.Attribute)):
                continue
            for inner in ast.walk(node):
                if isinstance(inner, ast.Call) and isinstance(inner.func, ast.Attribute):
                    if inner.func.attr in ("append", "pop", "extend", "insert", "remove", "clear", "update"):
                        self.assertNotEqual(ast.dump(inner.func.value), ast.dump(node.iter), (path, inner.lineno))

    def test_views_and_ranges_are_iterated_at_once(self):
        for path, node in self.nodes(ast.Assign, ast.Return):
            if isinstance(node.value, ast.Call) and isinstance(node.value.func, ast.Name):
                self.assertNotIn(node.value.func.id, ("zip", "enumerate", "reversed", "range", "map"), path)

    def test_functions_and_methods_have_docstrings(self):
        for path in FILES:
            tree = tree_of(path)
            self.assertTrue(ast.get_docstring(tree), path)
            for node in ast.walk(tree):
                if isinstance(node, (ast.FunctionDef, ast.ClassDef)) and not node.name.startswith("__"):
                    self.assertTrue(ast.get_docstring(node), (path, node.name))


if __name__ == "__main__":
    unittest.main()
