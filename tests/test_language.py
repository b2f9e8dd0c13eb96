"""Some of the rules of the language (L1 to L28) that a look at the program's files can tell."""

import ast
import builtins
import pathlib
import unittest

PACKAGE = pathlib.Path(__file__).resolve().parent.parent / "everypart"
BUILTINS = set("""len range enumerate zip min max sum abs sorted reversed int str bool bytes list tuple dict set frozenset
    isinstance ord repr any all divmod pow iter next getattr hasattr setattr type map property classmethod staticmethod
    super Exception ValueError TypeError KeyError IndexError LookupError ZeroDivisionError ArithmeticError OverflowError
    RuntimeError NotImplementedError AttributeError StopIteration NotImplemented""".split())
# Examples that are run in test_readme leave a `_` behind.
PYTHONS_NAMES = set(dir(builtins)) - {"_"}
METHODS = set("""append clear copy count endswith extend find get index insert isalnum isalpha isdigit islower isspace
    isupper items join keys ljust lower lstrip partition pop remove replace reverse rfind rjust rpartition rsplit rstrip
    setdefault split splitlines startswith strip update upper values zfill bit_length add discard""".split())
SPECIAL = set("""__init__ __eq__ __repr__ __str__ __len__ __iter__ __contains__ __invert__ __add__ __sub__
    __mul__""".split())
MORE_METHODS = set("""title capitalize swapcase casefold center expandtabs removeprefix removesuffix rindex isascii
    isdecimal isnumeric istitle isidentifier isprintable appendleft popleft extendleft rotate format""".split())
CHANGING = ("append", "clear", "extend", "insert", "pop", "remove", "reverse", "setdefault", "sort", "update", "add",
            "discard", "appendleft", "popleft", "extendleft", "rotate")
BARRED = (ast.AsyncFunctionDef, ast.Await, ast.Div, ast.MatMult, ast.ImportFrom, ast.Import)
LIBRARY = {"heapq": ("heappush", "heappop", "heapify", "heapreplace", "heappushpop"),
           "math": ("gcd", "lcm", "isqrt", "comb", "perm", "factorial"),
           "itertools": ("chain", "accumulate", "pairwise", "islice", "zip_longest"),
           "collections": ("defaultdict", "deque")}


def texts():
    return {path.stem: path.read_text(encoding="utf-8") for path in sorted(PACKAGE.glob("*.py"))}


def trees():
    return {name: ast.parse(text) for name, text in texts().items()}


def body_behind_docstring(tree):
    return tree.body[1:] if ast.get_docstring(tree) is not None else tree.body


def bound_at_top(tree):
    """The names that a file defines itself."""
    names = [node.name for node in tree.body if isinstance(node, (ast.FunctionDef, ast.ClassDef))]
    return names + [node.targets[0].id for node in tree.body if isinstance(node, ast.Assign)]


def imports_of(tree):
    """The pairs of a module and a name that a file imports from it."""
    return [(node.module, alias) for node in tree.body if isinstance(node, ast.ImportFrom) for alias in node.names]


def same_names(function):
    """For each name of a function all names that may be given to what it names, by plain assignments."""
    groups = {}
    for node in ast.walk(function):
        if isinstance(node, ast.Assign):
            choices = [node.value]
            if isinstance(node.value, ast.IfExp):
                choices = [node.value.body, node.value.orelse]
            if isinstance(node.value, ast.BoolOp):
                choices = node.value.values
            names = [part.id for part in node.targets + choices if isinstance(part, ast.Name)]
            whole = set(names).union(*[groups.get(name, set()) for name in names])
            groups.update({name: whole for name in whole})
    return groups


def walked_names(node):
    """The names that a loop or comprehension walks itself, not as a copy."""
    if isinstance(node, ast.Name):
        return [node.id]
    if isinstance(node, (ast.IfExp, ast.BoolOp)):
        return [name for part in ast.iter_child_nodes(node) for name in walked_names(part)]
    if isinstance(node, ast.Call) and isinstance(node.func, ast.Name):
        if node.func.id not in ("enumerate", "zip", "reversed"):
            return []
        return [name for part in node.args for name in walked_names(part)]
    if isinstance(node, ast.Call) and isinstance(node.func, ast.Attribute):
        return walked_names(node.func.value)
    return []


def changed_names(rows):
    """The names of what is changed in these rows: by a method, an item that is assigned, or one that is removed."""
    for node in [node for row in rows for node in ast.walk(row)]:
        if isinstance(node, ast.Call) and isinstance(node.func, ast.Attribute) and node.func.attr in CHANGING:
            node = node.func
        elif not isinstance(node, ast.Subscript) or isinstance(node.ctx, ast.Load):
            continue
        if isinstance(node.value, ast.Name):
            yield node.value.id


class FilesTest(unittest.TestCase):

    def test_only_python_files(self):
        names = [path.name for path in PACKAGE.iterdir() if path.name != "__pycache__"]
        self.assertIn("__init__.py", names)
        for name in names:
            self.assertRegex(name, r"^[a-z0-9_]+\.py$")

    def test_characters_and_lengths(self):
        for name, text in texts().items():
            lines = text.split("\n")
            self.assertLessEqual(len(lines), 399, name)
            self.assertTrue(all(sign == "\n" or " " <= sign <= "~" for sign in text), name)
            self.assertLessEqual(max(len(line) for line in lines), 120, name)
            for node in ast.walk(ast.parse(text)):
                if isinstance(node, ast.FunctionDef):
                    self.assertLessEqual(node.end_lineno - node.lineno + 1, 40, (name, node.name))

    def test_module_level(self):
        for name, tree in trees().items():
            seen_other = False
            for node in body_behind_docstring(tree):
                self.assertIsInstance(node, (ast.ImportFrom, ast.FunctionDef, ast.ClassDef, ast.Assign), name)
                self.assertFalse(seen_other and isinstance(node, ast.ImportFrom), name)
                seen_other = seen_other or not isinstance(node, ast.ImportFrom)
            bound = bound_at_top(tree) + [alias.name for _, alias in imports_of(tree)]
            self.assertEqual(len(bound), len(set(bound)), name)


class ImportsTest(unittest.TestCase):

    def test_imports_name_the_file_that_defines(self):
        found = trees()
        for name, tree in found.items():
            for module, alias in imports_of(tree):
                self.assertIsNone(alias.asname, name)
                if module in LIBRARY:
                    self.assertIn(alias.name, LIBRARY[module])
                    continue
                self.assertTrue(module.startswith("everypart."), (name, module))
                self.assertIn(alias.name, bound_at_top(found[module.split(".")[1]]), (name, module))

    def test_imports_are_used(self):
        for name, tree in trees().items():
            used = {node.id for node in ast.walk(tree) if isinstance(node, ast.Name)}
            for _, alias in imports_of(tree):
                self.assertIn(alias.name, used, name)

    def test_no_two_files_import_from_each_other(self):
        reach = {name: {module.split(".")[1] for module, _ in imports_of(tree) if module not in LIBRARY}
                 for name, tree in trees().items()}
        for _ in reach:
            for name in reach:
                reach[name] = reach[name].union(*[reach[other] for other in reach[name]])
        for name in reach:
            self.assertNotIn(name, reach[name])


class CodeTest(unittest.TestCase):

    def test_kinds_of_statements_and_values(self):
        for name, tree in trees().items():
            for top in tree.body:
                if isinstance(top, ast.ImportFrom):
                    continue
                for node in ast.walk(top):
                    self.assertNotIsInstance(node, BARRED, name)
                    self.assertNotIsInstance(getattr(node, "value", None), (float, complex), name)

    def test_generator_expressions(self):
        for name, tree in trees().items():
            for node in ast.walk(tree):
                if isinstance(node, ast.Call) and any(isinstance(value, ast.GeneratorExp) for value in node.args):
                    word = node.func.id if isinstance(node.func, ast.Name) else node.func.attr
                    self.assertIn(word, ("list", "tuple", "dict", "join"), name)

    def test_names(self):
        for name, tree in trees().items():
            barred = {alias.name for _, alias in imports_of(tree)}
            barred = barred.union(node.name for node in tree.body if isinstance(node, ast.ClassDef))
            barred = barred.union(PYTHONS_NAMES)
            for node in ast.walk(tree):
                if isinstance(node, ast.arg):
                    self.assertNotIn(node.arg, barred, name)
                if isinstance(node, ast.Name) and not isinstance(node.ctx, ast.Load):
                    self.assertNotIn(node.id, barred, name)
                if isinstance(node, ast.Name) and node.id in PYTHONS_NAMES:
                    self.assertIn(node.id, BUILTINS, name)

    def test_identity_is_asked_of_plain_values_alone(self):
        for name, tree in trees().items():
            for node in ast.walk(tree):
                if isinstance(node, ast.Compare) and any(isinstance(sign, (ast.Is, ast.IsNot)) for sign in node.ops):
                    self.assertIsInstance(node.comparators[0], ast.Constant, (name, node.lineno))
                    self.assertIn(node.comparators[0].value, (None, True, False), (name, node.lineno))

    def test_sets_are_measured_on_the_spot(self):
        for name, tree in trees().items():
            measured = [node.args[0] for node in ast.walk(tree) if isinstance(node, ast.Call)
                        and isinstance(node.func, ast.Name) and node.func.id in ("len", "sorted")]
            for node in ast.walk(tree):
                self.assertNotIsInstance(node, (ast.Set, ast.SetComp), name)
                if isinstance(node, ast.Call) and isinstance(node.func, ast.Name) and node.func.id == "set":
                    self.assertIn(node, measured, (name, node.lineno))

    def test_strings_and_powers(self):
        for name, tree in trees().items():
            for node in ast.walk(tree):
                if isinstance(node, ast.Constant) and isinstance(node.value, str):
                    self.assertNotIn("%", node.value, name)
                if isinstance(node, ast.BinOp) and isinstance(node.op, ast.Pow):
                    self.assertIsInstance(node.right, ast.Constant, name)

    def test_calls_pass_what_the_functions_take(self):
        found = trees()
        for name, tree in found.items():
            own = {node.name: node.args for node in tree.body if isinstance(node, ast.FunctionDef)}
            for module, alias in imports_of(tree):
                for node in found.get(module.rpartition(".")[2], ast.Module([], [])).body:
                    if isinstance(node, ast.FunctionDef) and node.name == alias.name:
                        own[alias.name] = node.args
            for node in ast.walk(tree):
                if isinstance(node, ast.Call) and isinstance(node.func, ast.Name) and node.func.id in own:
                    takes = own[node.func.id]
                    self.assertEqual(len(node.args), len(takes.args), (name, node.lineno))
                    self.assertTrue({word.arg for word in node.keywords} <= {word.arg for word in takes.kwonlyargs})

    def test_loops_do_not_change_what_they_walk(self):
        functions = [(name, node) for name, tree in trees().items() for node in ast.walk(tree)
                     if isinstance(node, ast.FunctionDef)]
        for name, function in functions:
            same = same_names(function)
            for loop in ast.walk(function):
                if isinstance(loop, ast.For):
                    walked = walked_names(loop.iter)
                    barred = set(walked).union(*[same.get(word, set()) for word in walked])
                    self.assertEqual(barred.intersection(changed_names(loop.body)), set(), (name, loop.lineno))

    def test_methods(self):
        found = trees()
        classes = [node for tree in found.values() for node in tree.body if isinstance(node, ast.ClassDef)]
        own = {node.name for body in classes for node in body.body if isinstance(node, ast.FunctionDef)}
        for special in own:
            self.assertTrue(not special.startswith("__") or special in SPECIAL, special)
        for name, tree in found.items():
            for node in ast.walk(tree):
                if isinstance(node, ast.Call) and isinstance(node.func, ast.Attribute):
                    self.assertIn(node.func.attr, METHODS | MORE_METHODS | own, name)
                if isinstance(node, ast.FunctionDef):
                    for decorator in node.decorator_list:
                        self.assertIn(ast.unparse(decorator), ("property", "classmethod", "staticmethod"), name)


if __name__ == "__main__":
    unittest.main()
