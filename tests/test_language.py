"""The rules of LANGUAGE.md that can be seen in the text of the package's files."""

import ast
import builtins
import functools
import pathlib
import unittest
import warnings

PACKAGE = pathlib.Path(__file__).resolve().parent.parent / "mostcrowds"
FILES = sorted(PACKAGE.rglob("*.py"))

LIBRARY = {
    "heapq": {"heappush", "heappop", "heapify", "heapreplace", "heappushpop"},
    "math": {"gcd", "lcm", "isqrt", "comb", "perm", "factorial"},
    "itertools": {
        "product", "combinations", "permutations", "chain", "accumulate", "pairwise", "islice", "zip_longest",
    },
    "collections": {"defaultdict"},
    "__future__": {"annotations"},
}
BUILTINS = set(
    "len range enumerate zip min max sum abs sorted reversed int str bool bytes list tuple dict set frozenset isinstance "
    "ord chr repr any all divmod pow getattr hasattr setattr iter next map super property staticmethod classmethod object "
    "Exception ValueError TypeError KeyError IndexError LookupError ZeroDivisionError ArithmeticError OverflowError "
    "RuntimeError NotImplementedError AttributeError StopIteration NotImplemented".split()
)
SPECIAL = {
    f"__{word}__"
    for word in (
        "init eq repr str len enter exit call iter lt le gt ge ne add sub mul floordiv mod pow and or xor lshift rshift "
        "radd rsub rmul rfloordiv rmod rand ror rxor rlshift rrshift iadd isub imul ifloordiv imod ipow iand ior ixor "
        "ilshift irshift neg pos invert abs bool contains getitem setitem"
    ).split()
}
NOWHERE = set("register mro elements open input law version_info with_traceback add_note".split())
NO_NAMES = set(
    "attrgetter breakpoint builtins compile copyright credits delattr dir eval exec exit gc globals help id importlib "
    "license locals methodcaller os quit type vars sys".split()
)
NO_WORDS = set(
    "type typing typing_extensions enum Enum IntEnum StrEnum Flag IntFlag Generic Protocol ABC ABCMeta namedtuple "
    "NamedTuple TypedDict TYPE_CHECKING abstractmethod".split()
)
METHODS = set(
    "append clear copy count endswith extend find get index insert isalnum isalpha isdigit islower isspace isupper items "
    "join keys ljust lower lstrip partition pop remove replace reverse rfind rjust rpartition rsplit rstrip setdefault split "
    "splitlines startswith strip update upper values zfill bit_length title capitalize swapcase casefold center expandtabs "
    "removeprefix removesuffix rindex isascii isdecimal isnumeric istitle isidentifier isprintable translate encode decode "
    "hex add discard format sort from_iterable".split()
)
STATEMENTS = (
    ast.Expr, ast.Assign, ast.AugAssign, ast.AnnAssign, ast.If, ast.While, ast.For, ast.Return, ast.Break, ast.Continue,
    ast.Pass, ast.Raise, ast.Assert, ast.Delete, ast.Nonlocal, ast.Match, ast.With, ast.Try, ast.Import, ast.ImportFrom,
    ast.FunctionDef, ast.ClassDef,
)


@functools.cache
def parsed(path):
    with warnings.catch_warnings():
        warnings.simplefilter("error")
        return ast.parse(path.read_text(encoding="utf-8"))


@functools.cache
def nodes(kind):
    return [(path.name, node) for path in FILES for node in ast.walk(parsed(path)) if isinstance(node, kind)]


def own_methods():
    return {
        part.name for _, node in nodes(ast.ClassDef) for part in node.body if isinstance(part, ast.FunctionDef)
    }


class Files(unittest.TestCase):
    def test_nothing_else_stands_in_the_package(self):
        others = [path for path in PACKAGE.rglob("*") if "__pycache__" not in path.parts and path not in FILES]
        self.assertEqual(others, [])
        self.assertIn(PACKAGE / "__init__.py", FILES)

    def test_the_package_itself_is_empty(self):
        body = parsed(PACKAGE / "__init__.py").body
        self.assertEqual(len(body), 1)
        self.assertTrue(ast.get_docstring(ast.Module(body, [])))

    def test_characters_and_sizes(self):
        for path in FILES:
            text = path.read_text(encoding="utf-8")
            self.assertTrue(all(letter == "\n" or " " <= letter <= "~" for letter in text), path.name)
            self.assertLessEqual(text.count("\n"), 399, path.name)
            for line in text.split("\n"):
                self.assertLessEqual(len(line), 120, (path.name, line))

    def test_functions_have_at_most_forty_lines(self):
        for name, node in nodes(ast.FunctionDef):
            self.assertLessEqual(node.end_lineno - node.lineno + 1, 40, (name, node.name))

    def test_docstrings(self):
        for path in FILES:
            self.assertTrue(ast.get_docstring(parsed(path)), path.name)


class Imports(unittest.TestCase):
    def test_only_from_the_package_and_the_library(self):
        for name, node in nodes((ast.Import, ast.ImportFrom)):
            self.assertIsInstance(node, ast.ImportFrom, name)
            self.assertEqual(node.level, 0, name)
            words = {alias.name for alias in node.names}
            if node.module in LIBRARY:
                self.assertLessEqual(words, LIBRARY[node.module], name)
            else:
                self.assertRegex(node.module, r"\Amostcrowds\.[a-z_]+\Z", name)
                self.assertLessEqual(words, self.defined(node.module), (name, node.module))
            self.assertTrue(all(alias.asname is None for alias in node.names), name)

    def defined(self, module):
        found = set()
        for node in parsed(PACKAGE / f"{module.split('.')[1]}.py").body:
            if isinstance(node, (ast.FunctionDef, ast.ClassDef)):
                found.add(node.name)
            elif isinstance(node, ast.Assign):
                found.add(node.targets[0].id)
        return found

    def test_all_are_used(self):
        for path in FILES:
            used = {node.id for node in ast.walk(parsed(path)) if isinstance(node, ast.Name)}
            for node in ast.walk(parsed(path)):
                if isinstance(node, ast.ImportFrom):
                    self.assertLessEqual({alias.name for alias in node.names}, used, path.name)

    def test_no_circle(self):
        needed = {
            path.stem: {
                node.module.split(".")[1]
                for node in ast.walk(parsed(path))
                if isinstance(node, ast.ImportFrom) and node.module.startswith("mostcrowds.")
            }
            for path in FILES
        }
        while needed:
            ready = [stem for stem, others in needed.items() if not others & set(needed)]
            self.assertTrue(ready, needed)
            needed = {stem: others for stem, others in needed.items() if stem not in ready}


class Statements(unittest.TestCase):
    def test_module_level(self):
        for path in FILES:
            bound = []
            for at, node in enumerate(parsed(path).body):
                if isinstance(node, ast.Assign):
                    self.assertTrue(len(node.targets) == 1 and isinstance(node.targets[0], ast.Name), path.name)
                    bound.append(node.targets[0].id)
                elif isinstance(node, ast.ImportFrom):
                    bound.extend(alias.name for alias in node.names)
                elif isinstance(node, ast.Expr):
                    self.assertTrue(at == 0 and isinstance(node.value, ast.Constant), path.name)
                else:
                    self.assertIsInstance(node, (ast.FunctionDef, ast.ClassDef), path.name)
                    bound.append(node.name)
            self.assertEqual(sorted(bound), sorted(set(bound)), path.name)

    def test_kinds_of_statements(self):
        for name, node in nodes(ast.stmt):
            self.assertIsInstance(node, STATEMENTS, (name, node.lineno))

    def test_decorators(self):
        for name, node in nodes((ast.FunctionDef, ast.ClassDef)):
            for decorator in node.decorator_list:
                told = ast.unparse(decorator)
                self.assertTrue(told in ("property", "staticmethod", "classmethod") or told.endswith(".setter"), (name, told))

    def test_raised_errors_are_made_on_the_spot(self):
        for name, node in nodes(ast.Raise):
            if node.exc is not None:
                self.assertTrue(isinstance(node.exc, ast.Call) and isinstance(node.exc.func, ast.Name), (name, node.lineno))

    def test_caught_errors(self):
        for name, node in nodes(ast.ExceptHandler):
            self.assertIsNotNone(node.type, name)
            for word in ("Exception", "TypeError", "ArithmeticError", "RuntimeError", "AttributeError"):
                self.assertNotIn(word, ast.unparse(node.type).split("."), name)


class Expressions(unittest.TestCase):
    def test_no_floats_and_no_division(self):
        for name, node in nodes(ast.Constant):
            self.assertNotIsInstance(node.value, (float, complex), name)
        for name, node in nodes((ast.Div, ast.MatMult)):
            self.fail((name, node))

    def test_strings(self):
        for path in FILES:
            tree = parsed(path)
            docs = {
                id(node.body[0].value)
                for node in ast.walk(tree)
                if isinstance(node, (ast.Module, ast.ClassDef, ast.FunctionDef)) and ast.get_docstring(node) is not None
            }
            for node in ast.walk(tree):
                if isinstance(node, ast.Constant) and isinstance(node.value, str):
                    self.assertNotIn("%", node.value, path.name)
                    if id(node) not in docs:
                        self.assertFalse(node.value.endswith(("._", ".__")), path.name)
                        self.assertFalse(NO_WORDS & set(node.value.replace("_", " ").split()), path.name)

    def test_sorted_takes_what_is_plainly_strings_or_numbers(self):
        for name, node in nodes(ast.Call):
            if isinstance(node.func, ast.Name) and node.func.id == "sorted" and not node.keywords:
                told = node.args[0]
                is_set = isinstance(told, ast.Call) and ast.unparse(told.func) == "set"
                self.assertTrue(is_set or isinstance(told, ast.ListComp), (name, node.lineno))

    def test_lists_instead_of_generator_expressions(self):
        for name, node in nodes((ast.GeneratorExp, ast.AsyncFor, ast.Await)):
            self.fail((name, node.lineno))

    def test_no_item_method_of_another_name(self):
        allowed = METHODS | own_methods()
        for name, node in nodes(ast.Call):
            if isinstance(node.func, ast.Attribute):
                self.assertIn(node.func.attr, allowed, (name, node.lineno))

    def test_exponents_are_literals(self):
        for name, node in nodes(ast.BinOp):
            if isinstance(node.op, ast.Pow):
                self.assertIsInstance(node.right, ast.Constant, (name, node.lineno))


class Operators(unittest.TestCase):
    def test_changes_in_place_are_by_literal_numbers(self):
        for name, node in nodes(ast.AugAssign):
            self.assertTrue(isinstance(node.value, ast.Constant) and isinstance(node.value.value, int), (name, node.lineno))

    def test_classes_with_an_index(self):
        for name, node in nodes(ast.ClassDef):
            methods = {part.name: part for part in node.body if isinstance(part, ast.FunctionDef)}
            if "__getitem__" in methods:
                body = methods["__iter__"].body
                self.assertEqual(len(body), 1, name)
                self.assertTrue(ast.unparse(body[0]).startswith("raise TypeError("), name)
        for path in FILES:
            text = path.read_text(encoding="utf-8")
            for word in ("(type)", "Meta", "metaclass="):
                self.assertNotIn(word, text, path.name)
        for name, node in nodes(ast.Attribute):
            self.assertNotEqual(node.attr, "keys", name)

    def test_results_of_special_methods(self):
        for name, node in nodes(ast.FunctionDef):
            for part in ast.walk(node):
                if isinstance(part, ast.Return) and node.name in ("__len__", "__str__", "__bool__"):
                    told = ast.unparse(part.value)
                    allowed = {"__len__": "len(", "__str__": ("str(", "f'", "'\\n'.join("), "__bool__": "bool("}[node.name]
                    self.assertTrue(told.startswith(allowed), (name, told))

    def test_not_implemented_is_returned_where_it_may_be(self):
        allowed = SPECIAL - {"__init__", "__len__", "__str__", "__bool__", "__iter__", "__getitem__", "__neg__", "__invert__"}
        for name, node in nodes(ast.FunctionDef):
            for part in ast.walk(node):
                if isinstance(part, ast.Name) and part.id == "NotImplemented":
                    self.assertIn(node.name, allowed, name)
        returned = [node.value for _, node in nodes(ast.Return) if isinstance(node.value, ast.Name)]
        self.assertEqual(
            len([node for node in returned if node.id == "NotImplemented"]),
            len([node for _, node in nodes(ast.Name) if node.id == "NotImplemented"]),
        )

    def test_least_and_greatest_of_what_is_plainly_numbers(self):
        for name, node in nodes(ast.Call):
            if isinstance(node.func, ast.Name) and node.func.id in ("min", "max"):
                told = node.args if len(node.args) > 1 else [node.args[0].elt]
                plain = [isinstance(one, ast.Call) and ast.unparse(one.func) in ("len", "int") for one in told]
                self.assertTrue(any(plain), (name, node.lineno))

    def test_properties(self):
        made = {}
        for name, node in nodes(ast.ClassDef):
            for part in node.body:
                if isinstance(part, ast.FunctionDef) and [ast.unparse(told) for told in part.decorator_list] == ["property"]:
                    made[part.name] = name
                    self.assertEqual([ast.unparse(row).split(" ")[0] for row in part.body[1:]], ["return"])
        self.assertEqual(made, {"crowd": "halls.py"})
        for name, node in nodes(ast.Attribute):
            if isinstance(node.ctx, ast.Store):
                self.assertNotIn(node.attr, made, (name, node.lineno))

    def test_rows_at_the_end_of_a_block(self):
        for name, node in nodes(ast.FunctionDef):
            if node.name == "__exit__":
                self.assertEqual(ast.unparse(node.body[0]), "hall = self.hall")
                for row in node.body[1:]:
                    self.assertRegex(ast.unparse(row), r"\Ahall\.[a-z]+ = self\.[a-z]+\Z", name)

    def test_no_sort_and_no_reversed(self):
        for name, node in nodes(ast.Call):
            self.assertFalse(isinstance(node.func, ast.Attribute) and node.func.attr == "sort", name)
            self.assertFalse(isinstance(node.func, ast.Name) and node.func.id == "reversed", name)


class Names(unittest.TestCase):
    def bound(self):
        """All names that the package gives a meaning, except methods and attributes."""
        methods = {id(part) for _, node in nodes(ast.ClassDef) for part in node.body}
        for path in FILES:
            for node in ast.walk(parsed(path)):
                if isinstance(node, ast.Name) and isinstance(node.ctx, ast.Store):
                    yield path.name, node.id
                elif isinstance(node, ast.arg):
                    yield path.name, node.arg
                elif isinstance(node, ast.ClassDef):
                    yield path.name, node.name
            for node in parsed(path).body:
                if isinstance(node, ast.FunctionDef) and id(node) not in methods:
                    yield path.name, node.name

    def test_builtins_keep_their_meaning(self):
        for name, word in self.bound():
            self.assertFalse(hasattr(builtins, word), (name, word))

    def test_only_some_builtins_are_used(self):
        for name, node in nodes(ast.Name):
            if hasattr(builtins, node.id):
                self.assertIn(node.id, BUILTINS, (name, node.lineno))

    def test_names_that_are_not_used(self):
        for name, word in self.bound():
            self.assertNotIn(word, NOWHERE | NO_NAMES | NO_WORDS, name)
            self.assertFalse(word.startswith("__"), (name, word))
        for name, node in nodes(ast.Attribute):
            self.assertNotIn(node.attr, NOWHERE | NO_WORDS | {"format_map", "args"}, name)

    def test_no_name_hides_an_import_or_a_class(self):
        for path in FILES:
            tree = parsed(path)
            taken = {alias.name for node in tree.body if isinstance(node, ast.ImportFrom) for alias in node.names}
            taken |= {node.name for node in tree.body if isinstance(node, ast.ClassDef)}
            for node in ast.walk(tree):
                if isinstance(node, ast.arg):
                    self.assertNotIn(node.arg, taken, path.name)
                elif isinstance(node, ast.Name) and isinstance(node.ctx, ast.Store):
                    self.assertNotIn(node.id, taken, path.name)

    def test_names_of_class_methods_mean_nothing_else(self):
        made, others = set(), set()
        for _, node in nodes(ast.ClassDef):
            for part in node.body:
                if isinstance(part, ast.FunctionDef):
                    told = {ast.unparse(decorator) for decorator in part.decorator_list}
                    (made if told & {"classmethod", "staticmethod"} else others).add(part.name)
        for _, node in nodes(ast.Attribute):
            if isinstance(node.ctx, ast.Store):
                others.add(node.attr)
        self.assertEqual(made & (others | METHODS | {"keys"}), set())

    def test_attributes_are_assigned_through_plain_names(self):
        for name, node in nodes(ast.Attribute):
            if isinstance(node.ctx, ast.Store):
                self.assertIsInstance(node.value, ast.Name, (name, node.lineno))

    def test_attributes_that_are_read_are_assigned(self):
        assigned = {node.attr for _, node in nodes(ast.Attribute) if isinstance(node.ctx, ast.Store)}
        # The word setter stands in decorators alone, which other tests look at.
        for name, node in nodes(ast.Attribute):
            if isinstance(node.ctx, ast.Load) and node.attr != "setter":
                self.assertIn(node.attr, assigned | own_methods() | METHODS, (name, node.lineno))

    def test_special_methods(self):
        for name, node in nodes(ast.FunctionDef):
            if node.name.startswith("__"):
                self.assertIn(node.name, SPECIAL, name)


if __name__ == "__main__":
    unittest.main()
