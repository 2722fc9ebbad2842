"""Those rules of the language that can be seen from the text of a file of the package."""

import ast
import builtins
import re
import unittest
from pathlib import Path

TOP = Path(__file__).resolve().parent.parent
PACKAGE = TOP / "rootshared"

BUILTINS = set("""
len range enumerate zip min max sum abs sorted reversed int str bool bytes list tuple dict set frozenset isinstance
ord repr any all divmod pow getattr hasattr setattr iter next map super property staticmethod classmethod object float
Exception ValueError TypeError KeyError IndexError LookupError ZeroDivisionError ArithmeticError OverflowError
RuntimeError NotImplementedError AttributeError StopIteration NotImplemented True False None
""".split())
LIBRARY = {
    "heapq": "heappush heappop heapify heapreplace heappushpop", "math": "gcd lcm isqrt comb perm factorial",
    "itertools": "chain accumulate pairwise islice zip_longest", "collections": "defaultdict",
    "__future__": "annotations",
}
NOWHERE = set("register mro elements open input law version_info with_traceback add_note".split())
SIGNS = set("""
init eq repr str len enter exit call iter lt le gt ge ne add sub mul floordiv mod pow and or xor lshift rshift radd rsub
rmul rfloordiv rmod rand ror rxor rlshift rrshift iadd isub imul ifloordiv imod ipow iand ior ixor ilshift irshift neg
pos invert abs bool contains getitem setitem
""".split())
BARRED = (ast.AsyncFunctionDef, ast.AsyncFor, ast.AsyncWith, ast.Await, ast.Global, ast.Div)
# Words that stand in no name and in no string.
BARRED_WORDS = set("""
type typing typing_extensions enum Enum IntEnum StrEnum Flag IntFlag Generic Protocol ABC ABCMeta namedtuple NamedTuple
TypedDict TYPE_CHECKING abstractmethod dataclass overload contextmanager Meta
""".split())
# Methods of builtin values, without those of bytes.
METHODS = set("""
append clear copy count endswith extend find get index insert isalnum isalpha isdigit islower isspace isupper items join
keys ljust lower lstrip partition pop remove replace reverse rfind rjust rpartition rsplit rstrip setdefault split
splitlines startswith strip update upper values zfill bit_length title capitalize swapcase casefold center expandtabs
removeprefix removesuffix rindex isascii isdecimal isnumeric istitle isidentifier isprintable translate sort add discard
""".split())
KEYWORDS = {"sorted": {"key", "reverse"}, "min": {"key", "default"}, "max": {"key", "default"}, "sum": {"start"},
            "enumerate": {"start"}, "zip": {"strict"}}
LOOPS = (ast.For, ast.comprehension)
TAKING_LISTS = ("any", "all", "min", "max", "sum", "sorted")


def files():
    return sorted(path for path in PACKAGE.rglob("*") if path.is_file() and "__pycache__" not in path.parts)


def trees():
    return [(path, ast.parse(path.read_text(encoding="utf-8"))) for path in files()]


def module_path(name):
    """The file of a module by its full name."""
    path = TOP.joinpath(*name.split("."))
    return path / "__init__.py" if path.is_dir() else path.with_suffix(".py")


def imports_of(tree):
    return [node for node in ast.walk(tree) if isinstance(node, (ast.Import, ast.ImportFrom))]


def starred_subscripts(tree):
    """The rows of the subscripts with a star anywhere inside their brackets."""
    found = [node for node in ast.walk(tree) if isinstance(node, ast.Subscript)]
    return [node.lineno for node in found if any(isinstance(inner, ast.Starred) for inner in ast.walk(node.slice))]


def bound_names(tree):
    """The names that are defined or assigned at module level, without those of imports."""
    names = []
    for node in tree.body:
        if isinstance(node, (ast.FunctionDef, ast.ClassDef)):
            names.append(node.name)
        elif isinstance(node, ast.Assign):
            names.extend(target.id for target in node.targets)
    return names


class Language(unittest.TestCase):
    def test_files(self):
        for path in files():
            self.assertEqual(path.suffix, ".py", path)
            self.assertRegex(path.stem, "^[a-z0-9_]+$")
            self.assertTrue((path.parent / "__init__.py").is_file(), path)
            text = path.read_text(encoding="ascii")
            self.assertTrue(all(" " <= sign <= "~" or sign == "\n" for sign in text), path)
            self.assertLessEqual(len(text.splitlines()), 399, path)
            for line in text.splitlines():
                self.assertLessEqual(len(line), 120, path)

    def test_functions_are_small(self):
        for path, tree in trees():
            for node in ast.walk(tree):
                if isinstance(node, ast.FunctionDef):
                    self.assertLessEqual(node.end_lineno - node.lineno + 1, 40, (path, node.name))

    def test_imports_name_the_files_that_define_what_is_imported(self):
        for path, tree in trees():
            for node in imports_of(tree):
                where = (path, node.lineno)
                self.assertIsInstance(node, ast.ImportFrom, where)
                self.assertIn(node, tree.body, where)
                self.assertEqual(node.level, 0, where)
                names = [alias.name for alias in node.names]
                if node.module in LIBRARY:
                    self.assertLessEqual(set(names), set(LIBRARY[node.module].split()), where)
                else:
                    self.assertEqual(node.module.split(".")[0], "rootshared", where)
                    defined = bound_names(ast.parse(module_path(node.module).read_text()))
                    self.assertLessEqual(set(names), set(defined), where)

    def test_imports_go_in_no_circle(self):
        needs = {}
        for path, tree in trees():
            found = [module_path(node.module) for node in imports_of(tree) if node.module not in LIBRARY]
            above = [parent / "__init__.py" for other in found for parent in other.parents if PACKAGE in
                     (parent, *parent.parents)]
            needs[path] = set(found + above)
        done = set()
        while len(done) < len(needs):
            ready = {path for path, wanted in needs.items() if path not in done and wanted <= done}
            self.assertTrue(ready, "imports go in a circle")
            done |= ready

    def test_names_are_bound_once_at_module_level(self):
        for path, tree in trees():
            names = bound_names(tree)
            for node in imports_of(tree):
                names.extend(alias.asname or alias.name for alias in node.names)
            self.assertEqual(sorted(names), sorted(set(names)), path)

    def test_module_level_holds_definitions_and_plain_values_alone(self):
        let = (ast.ImportFrom, ast.FunctionDef, ast.ClassDef, ast.Assign)
        for path, tree in trees():
            self.assertIsInstance(ast.get_docstring(tree), str, path)
            for node in tree.body[1:]:
                self.assertIsInstance(node, let, (path, node.lineno))

    def test_nodes_and_names(self):
        for path, tree in trees():
            for node in ast.walk(tree):
                where = (path, getattr(node, "lineno", None))
                self.assertNotIsInstance(node, BARRED, where)
                self.check_node(node, where)

    def check_node(self, node, where):
        if isinstance(node, ast.Name) and node.id == "_":
            self.assertIsInstance(node.ctx, ast.Store, where)
        elif isinstance(node, ast.Name):
            self.assertTrue(node.id in BUILTINS or not hasattr(builtins, node.id), where)
            self.assertFalse(node.id in BUILTINS and isinstance(node.ctx, ast.Store), where)
            self.assertNotIn(node.id, NOWHERE, where)
        elif isinstance(node, ast.arg):
            self.assertFalse(hasattr(builtins, node.arg), where)
            self.assertNotIn(node.arg, NOWHERE, where)
        elif isinstance(node, ast.Attribute):
            self.assertNotIn(node.attr, NOWHERE, where)
        elif isinstance(node, ast.Constant):
            self.assertNotIsInstance(node.value, (float, complex), where)
            self.assertFalse(isinstance(node.value, str) and "%" in node.value, where)
        elif isinstance(node, ast.Raise) and node.exc is not None:
            self.assertTrue(isinstance(node.exc, ast.Call) and isinstance(node.exc.func, ast.Name), where)
        elif isinstance(node, ast.Call) and isinstance(node.func, ast.Name) and node.func.id in TAKING_LISTS:
            # The package has classes with an `__eq__`, so these take lists.
            self.assertFalse(any(isinstance(given, ast.GeneratorExp) for given in node.args), where)
        elif isinstance(node, ast.FunctionDef):
            self.check_function(node, where)

    def test_names_of_imports_and_classes_mean_nothing_else(self):
        for path, tree in trees():
            taken = {node.name for node in tree.body if isinstance(node, ast.ClassDef)}
            taken.update(alias.name for node in imports_of(tree) for alias in node.names)
            for node in ast.walk(tree):
                where = (path, getattr(node, "lineno", None))
                if isinstance(node, ast.arg):
                    self.assertNotIn(node.arg, taken, where)
                elif isinstance(node, ast.Name) and isinstance(node.ctx, ast.Store):
                    self.assertNotIn(node.id, taken, where)

    def test_words_that_stand_nowhere(self):
        for path, tree in trees():
            documents = {id(node.body[0].value) for node in ast.walk(tree)
                         if isinstance(node, (ast.Module, ast.ClassDef, ast.FunctionDef)) and ast.get_docstring(node)}
            for node in ast.walk(tree):
                told = [getattr(node, name, None) for name in ("id", "attr", "arg", "name")]
                if isinstance(node, ast.Constant) and isinstance(node.value, str) and id(node) not in documents:
                    told.extend(re.findall(r"\w+", node.value))
                self.assertFalse(BARRED_WORDS & {word for word in told if isinstance(word, str)}, (path, node))

    def test_is_stands_beside_none_true_and_false(self):
        for path, tree in trees():
            for node in ast.walk(tree):
                if isinstance(node, ast.Compare) and isinstance(node.ops[0], (ast.Is, ast.IsNot)):
                    right = node.comparators[0]
                    self.assertTrue(isinstance(right, ast.Constant) and right.value in (None, True, False), (path, node.lineno))

    def test_sets_stand_behind_in_or_in_len_and_sorted(self):
        for path, tree in trees():
            let = set()
            for node in ast.walk(tree):
                if isinstance(node, ast.Call) and isinstance(node.func, ast.Name) and node.func.id in ("len", "sorted"):
                    let.update(id(given) for given in node.args)
                elif isinstance(node, ast.Compare):
                    let.update(id(given) for given in node.comparators)
            for node in ast.walk(tree):
                named = isinstance(node, ast.Call) and isinstance(node.func, ast.Name) and node.func.id == "set"
                if named or isinstance(node, (ast.Set, ast.SetComp)):
                    self.assertIn(id(node), let, (path, node.lineno))

    def test_calls(self):
        own = {node.name for _, tree in trees() for node in ast.walk(tree) if isinstance(node, ast.FunctionDef)}
        for path, tree in trees():
            for node in [node for node in ast.walk(tree) if isinstance(node, ast.Call)]:
                where = (path, node.lineno)
                keywords = {keyword.arg for keyword in node.keywords}
                if isinstance(node.func, ast.Attribute):
                    self.assertIn(node.func.attr, METHODS | own, where)
                    self.assertFalse(keywords and node.func.attr in METHODS, where)
                elif isinstance(node.func, ast.Name) and node.func.id in BUILTINS:
                    self.assertLessEqual(keywords, KEYWORDS.get(node.func.id, set()), where)

    def test_generators_are_iterated_at_once(self):
        made = [node.name for _, tree in trees() for node in ast.walk(tree) if isinstance(node, ast.FunctionDef)
                and any(isinstance(inner, (ast.Yield, ast.YieldFrom)) for inner in ast.walk(node))]
        for path, tree in trees():
            let = {id(node.iter) for node in ast.walk(tree) if isinstance(node, LOOPS)}
            for node in ast.walk(tree):
                if isinstance(node, ast.Call) and isinstance(node.func, ast.Name) and node.func.id in made:
                    self.assertIn(id(node), let, (path, node.lineno))

    def test_loops_change_nothing_that_they_iterate_over(self):
        changing = ("append", "clear", "extend", "insert", "pop", "remove", "reverse", "setdefault", "update", "sort")
        for path, tree in trees():
            for loop in [node for node in ast.walk(tree) if isinstance(node, ast.For)]:
                over = {ast.dump(node) for node in ast.walk(loop.iter) if isinstance(node, (ast.Name, ast.Attribute))}
                for node in [node for row in loop.body for node in ast.walk(row)]:
                    if isinstance(node, ast.Call) and isinstance(node.func, ast.Attribute) and node.func.attr in changing:
                        self.assertNotIn(ast.dump(node.func.value), over, (path, node.lineno))
                    elif isinstance(node, ast.Subscript) and not isinstance(node.ctx, ast.Load):
                        self.assertNotIn(ast.dump(node.value).replace("Store()", "Load()"), over, (path, node.lineno))

    def test_operators_and_properties_assign_no_attribute(self):
        for path, tree in trees():
            for node in [node for node in ast.walk(tree) if isinstance(node, ast.FunctionDef)]:
                marked = any(isinstance(mark, ast.Name) and mark.id == "property" for mark in node.decorator_list)
                if marked or (node.name.startswith("__") and node.name not in ("__init__", "__call__", "__setitem__")):
                    for inner in ast.walk(node):
                        changed = isinstance(inner, (ast.Attribute, ast.Subscript)) and not isinstance(inner.ctx, ast.Load)
                        self.assertFalse(changed, (path, node.lineno))

    def test_no_star_stands_in_a_subscript(self):
        for path, tree in trees():
            self.assertEqual(starred_subscripts(tree), [], path)

    def test_stars_in_subscripts_are_found(self):
        for row in ("x = d[(*w, 1)]", "d[(*w, 1)] = 2", "d[*w] = 1", "del d[0, (1, *w)]", "x = d[f(*w)]", "d[k][[*w][0]] += 1",
                    "x = d[0:len([*w])]", "x: tuple[*w] = ()"):
            self.assertEqual(starred_subscripts(ast.parse(f"k = 0\n{row}")), [2], row)
        for row in ("d[w + (1,)] = (*w, 1)", "x = (*w, 1)[0]", "x = f(*w)[1]", "a, *b = d[0]", "x = [*w, d[0]]", "d[a * b] = {**d}"):
            self.assertEqual(starred_subscripts(ast.parse(row)), [], row)

    def check_function(self, node, where):
        if node.name.startswith("__"):
            self.assertIn(node.name.strip("_"), SIGNS, where)
        else:
            self.assertNotIn(node.name, NOWHERE, where)
            self.assertNotIn(node.name, BUILTINS, where)
        for mark in node.decorator_list:
            plain = isinstance(mark, ast.Name) and mark.id in ("property", "staticmethod", "classmethod")
            self.assertTrue(plain or isinstance(mark, ast.Attribute) and mark.attr == "setter", where)


if __name__ == "__main__":
    unittest.main()
