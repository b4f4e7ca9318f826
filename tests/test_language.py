"""The form of the package, as far as it can be read off its files."""

import ast
import builtins
import os
import re
import unittest

ROOT = os.path.dirname(os.path.dirname(os.path.abspath(__file__)))
PACKAGE = os.path.join(ROOT, "crosswebs")

LIBRARY = {
    "heapq": "heappush heappop heapify heapreplace heappushpop", "math": "gcd lcm isqrt comb perm factorial",
    "itertools": "chain accumulate pairwise islice zip_longest", "collections": "defaultdict deque",
}
BUILTINS = (
    "len range enumerate zip min max sum abs sorted reversed int str bool bytes list tuple dict set isinstance ord repr any "
    "all divmod pow getattr hasattr setattr iter next map type super property classmethod staticmethod Exception ValueError "
    "TypeError KeyError IndexError LookupError ZeroDivisionError ArithmeticError OverflowError RuntimeError "
    "NotImplementedError AttributeError StopIteration NotImplemented").split()
METHODS = (
    "append clear copy count endswith extend find get index insert isalnum isalpha isdigit islower isspace isupper items join "
    "keys ljust lower lstrip partition pop remove replace reverse rfind rjust rpartition rsplit rstrip setdefault split "
    "splitlines startswith strip update upper values zfill bit_length add discard sort title capitalize swapcase casefold "
    "center expandtabs removeprefix removesuffix rindex isascii isdecimal isnumeric istitle isidentifier isprintable").split()
BARRED = ("register mro elements open input law version_info with_traceback add_note typing enum Enum dataclass overload "
          "contextmanager namedtuple NamedTuple Protocol ABC abstractmethod global_ globals locals eval exec").split()
DOUBLE = ("init eq repr str len enter exit call iter lt le gt ge ne add sub mul floordiv mod pow and or xor lshift rshift neg "
          "pos invert abs bool contains getitem setitem radd rsub rmul").split()
NODES = (ast.AsyncFunctionDef, ast.AsyncFor, ast.AsyncWith, ast.Await, ast.Import, ast.GeneratorExp, ast.Div, ast.MatMult,
         ast.Global)


def files():
    """The paths of the files of the package, with the names of their modules."""
    for folder, folders, names in os.walk(PACKAGE):
        folders[:] = sorted(name for name in folders if name != "__pycache__")
        for name in sorted(names):
            path = os.path.join(folder, name)
            yield path, os.path.relpath(path, ROOT)[:-3].replace(os.sep, ".")


def read(path):
    with open(path, encoding="utf-8") as file:
        return file.read()


def trees():
    return {module: ast.parse(read(path)) for path, module in files()}


def names_in(tree):
    """The names that a file binds or takes as parameters, its attributes aside."""
    for node in ast.walk(tree):
        if isinstance(node, ast.Name) and isinstance(node.ctx, ast.Store):
            yield node.id
        elif isinstance(node, ast.arg):
            yield node.arg
        elif isinstance(node, (ast.FunctionDef, ast.ClassDef)):
            yield node.name


def is_docstring(node, parents):
    return isinstance(parents.get(node), ast.Expr)


def parents_in(tree):
    return {child: node for node in ast.walk(tree) for child in ast.iter_child_nodes(node)}


class Files(unittest.TestCase):
    def test_names_and_kinds(self):
        for path, _ in files():
            self.assertRegex(os.path.basename(path), r"^(__init__|__main__|[a-z][a-z0-9_]*)\.py$")
            self.assertTrue(os.path.exists(os.path.join(os.path.dirname(path), "__init__.py")))

    def test_sizes_and_characters(self):
        for path, module in files():
            lines = read(path).split("\n")
            self.assertLessEqual(len(lines), 400, module)
            for line in lines:
                self.assertLessEqual(len(line), 120, module)
                self.assertRegex(line, r"^[ -~]*$", module)

    def test_functions_are_short(self):
        for module, tree in trees().items():
            for node in ast.walk(tree):
                if isinstance(node, ast.FunctionDef):
                    self.assertLessEqual(node.end_lineno - node.lineno + 1, 40, (module, node.name))

    def test_module_level(self):
        for module, tree in trees().items():
            for node in tree.body:
                self.assertIsInstance(node, (ast.Expr, ast.ImportFrom, ast.FunctionDef, ast.ClassDef, ast.Assign), module)
                if isinstance(node, ast.Expr):
                    self.assertIs(node, tree.body[0], module)
                if isinstance(node, ast.Assign):
                    self.assertEqual([type(target) for target in node.targets], [ast.Name], module)

    def test_imports_name_the_file_that_defines(self):
        all_trees = trees()
        for module, tree in all_trees.items():
            for node in ast.walk(tree):
                if not isinstance(node, ast.ImportFrom):
                    continue
                self.assertEqual(node.level, 0, module)
                for alias in node.names:
                    if node.module in LIBRARY:
                        self.assertIn(alias.name, LIBRARY[node.module].split(), module)
                    else:
                        self.assertIn(alias.name, {name for part in all_trees[node.module].body for name in names_in(part)})
                    self.assertIsNone(alias.asname, module)

    def test_no_two_files_import_from_each_other(self):
        needs = {module: {node.module for node in ast.walk(tree) if isinstance(node, ast.ImportFrom)}
                 for module, tree in trees().items()}
        left = dict(needs)
        while left:
            free = [module for module in left if not needs[module] & set(left)]
            self.assertNotEqual(free, [], sorted(left))
            for module in free:
                del left[module]


def functions(tree):
    return [node for node in ast.walk(tree) if isinstance(node, ast.FunctionDef)]


def classes(tree):
    return [node for node in ast.walk(tree) if isinstance(node, ast.ClassDef)]


def is_generator(function):
    return any(isinstance(node, (ast.Yield, ast.YieldFrom)) for node in ast.walk(function))


def kept_name(function):
    """The attribute in which a property keeps its answer, None if it does not just that."""
    lines = [ast.unparse(node) for node in function.body[1:]]
    found = re.fullmatch(r"if self\.(_\w+) is None:\n    self\.\1 = [^\n]+\nreturn self\.\1", "\n".join(lines))
    marks = [ast.unparse(mark) for mark in function.decorator_list]
    return found[1] if found and marks == ["property"] else None


def called(node):
    """The bare name that a call calls."""
    return node.func.id if isinstance(node, ast.Call) and isinstance(node.func, ast.Name) else None


class Uses(unittest.TestCase):
    """Rules about what stands where: L5, L7, L15, L18, L22, L23, L24."""

    # Only benches ever change, and the blocks with them.
    changing = [("crosswebs.use.bench", name) for name in ("_turn_to", "__enter__", "__exit__")]
    iterated = "list tuple sorted sum min max any all enumerate zip iter dict".split()

    def test_locals_have_no_name_of_an_import_or_a_class(self):
        for module, tree in trees().items():
            taken = {alias.name for node in ast.walk(tree) if isinstance(node, ast.ImportFrom) for alias in node.names}
            taken |= {node.name for node in classes(tree)}
            for function in functions(tree):
                names = {node.id for node in ast.walk(function)
                         if isinstance(node, ast.Name) and isinstance(node.ctx, ast.Store)}
                names |= {node.arg for node in ast.walk(function) if isinstance(node, ast.arg)}
                self.assertEqual(names & taken, set(), (module, function.name))

    def test_properties_and_class_methods_have_names_of_their_own(self):
        kinds = {}
        for tree in trees().values():
            for node in classes(tree):
                for method in [part for part in node.body if isinstance(part, ast.FunctionDef)]:
                    marks = [ast.unparse(mark) for mark in method.decorator_list]
                    kinds.setdefault(method.name, set()).add(marks[0] if marks else "method")
            for node in ast.walk(tree):
                if isinstance(node, ast.Attribute) and isinstance(node.ctx, ast.Store):
                    kinds.setdefault(node.attr, set()).add("attribute")
        for name, told in kinds.items():
            self.assertEqual(len(told), 1, name)
            if told != {"method"}:
                self.assertNotIn(name, METHODS)

    def test_nothing_is_caught_added_in_place_or_passed_on_as_a_lambda(self):
        for module, tree in trees().items():
            for node in ast.walk(tree):
                self.assertNotIsInstance(node, (ast.Try, ast.AugAssign, ast.Lambda, ast.Match, ast.NamedExpr), module)

    def test_with_stands_over_a_call_that_gives_a_trial(self):
        for module, tree in trees().items():
            for node in ast.walk(tree):
                if isinstance(node, ast.With):
                    self.assertEqual([ast.unparse(item.context_expr) for item in node.items], ["self.trial()"], module)

    def test_blocks_end_with_plain_assignments(self):
        for module, tree in trees().items():
            for function in functions(tree):
                if function.name == "__exit__":
                    for node in function.body:
                        self.assertRegex(ast.unparse(node), r"^(\w+|\w+\._\w+) = self\._\w+$", module)

    def test_views_and_generators_are_iterated_at_once(self):
        all_trees = trees()
        makers = {function.name for tree in all_trees.values() for function in functions(tree) if is_generator(function)}
        for module, tree in all_trees.items():
            parents = parents_in(tree)
            for node in ast.walk(tree):
                views = isinstance(node, ast.Call) and isinstance(node.func, ast.Attribute) and node.func.attr in (
                    "items", "keys", "values")
                if not views and called(node) not in makers | {"range", "zip", "enumerate", "reversed", "map"}:
                    continue
                parent = parents[node]
                at_once = isinstance(parent, (ast.For, ast.comprehension)) and parent.iter is node
                at_once = at_once or isinstance(parent, ast.YieldFrom) or called(parent) in self.iterated
                self.assertTrue(at_once, (module, node.lineno))
            for node in ast.walk(tree):
                if isinstance(node, ast.Name) and node.id in makers and isinstance(node.ctx, ast.Load):
                    self.assertEqual(called(parents[node]), node.id, (module, node.lineno))

    def test_sets_are_measured_sorted_or_compared_at_once(self):
        for module, tree in trees().items():
            parents = parents_in(tree)
            for node in ast.walk(tree):
                self.assertNotIsInstance(node, ast.Set, module)
                if called(node) == "set" or isinstance(node, ast.SetComp):
                    self.assertIn(called(parents[node]), ("len", "sorted"), (module, node.lineno))

    def test_stars_stand_over_names_alone(self):
        for module, tree in trees().items():
            for node in ast.walk(tree):
                if isinstance(node, ast.Starred):
                    self.assertIsInstance(node.value, ast.Name, (module, node.lineno))

    def test_keywords_of_builtins(self):
        for module, tree in trees().items():
            for node in ast.walk(tree):
                if called(node) in BUILTINS:
                    told = [keyword.arg for keyword in node.keywords]
                    self.assertIn(told, ([], ["default"]) if called(node) in ("min", "max") else ([],), (module, node.lineno))

    def test_attributes_of_others_are_set_on_new_objects_alone(self):
        for module, tree in trees().items():
            for function in functions(tree):
                made = {node.targets[0].id for node in ast.walk(function) if isinstance(node, ast.Assign)
                        and isinstance(node.targets[0],
                                       ast.Name) and called(node.value) in {part.name for part in classes(tree)}}
                for node in ast.walk(function):
                    if isinstance(node, ast.Attribute) and isinstance(node.ctx, ast.Store):
                        right = made | ({"self"} if function.name == "__init__" else set())
                        right |= {"self", "bench"} if (module, function.name) in self.changing else set()
                        right |= {"self"} if kept_name(function) == node.attr else set()
                        self.assertIn(ast.unparse(node.value), right, (module, node.lineno))

    def test_kept_answers_are_read_by_their_properties_alone(self):
        all_trees = trees()
        told = [node for tree in all_trees.values() for node in ast.walk(tree)]
        attributes = [node.attr for node in told if isinstance(node, ast.Attribute)]
        texts = [node.value for node in told if isinstance(node, ast.Constant)]
        for node in [node for tree in all_trees.values() for node in classes(tree)]:
            begins = [line for part in functions(node) if part.name == "__init__" for line in map(ast.unparse, part.body)]
            for name in [kept_name(part) for part in functions(node) if kept_name(part)]:
                self.assertIn(f"self.{name} = None", begins)
                # Once in `__init__`, and asked, assigned and returned in the property.
                self.assertEqual(attributes.count(name), 4, name)
                self.assertNotIn(name, texts)


class Words(unittest.TestCase):
    def test_statements_and_expressions(self):
        for module, tree in trees().items():
            for node in ast.walk(tree):
                self.assertNotIsInstance(node, NODES, (module, getattr(node, "lineno", 0)))
                if isinstance(node, ast.Constant):
                    self.assertNotIsInstance(node.value, (float, complex), module)

    def test_names(self):
        own = set()
        for module, tree in trees().items():
            for name in names_in(tree):
                own.add(name)
                self.assertNotIn(name, BARRED, module)
                if re.fullmatch(r"_?[A-Za-z][A-Za-z0-9_]*|_", name):
                    self.assertFalse(hasattr(builtins, name), (module, name))
                else:
                    self.assertIn(name, [f"__{word}__" for word in DOUBLE], module)
        for module, tree in trees().items():
            taken = {alias.name for node in ast.walk(tree) if isinstance(node, ast.ImportFrom) for alias in node.names}
            for node in ast.walk(tree):
                if isinstance(node, ast.Name) and isinstance(node.ctx, ast.Load) and node.id not in own | taken:
                    self.assertIn(node.id, BUILTINS, (module, node.lineno))

    def test_methods_that_are_called(self):
        own = {node.name for tree in trees().values() for node in ast.walk(tree) if isinstance(node, ast.FunctionDef)}
        for module, tree in trees().items():
            for node in ast.walk(tree):
                if isinstance(node, ast.Call) and isinstance(node.func, ast.Attribute):
                    self.assertIn(node.func.attr, own | set(METHODS), (module, node.lineno))

    def test_decorators(self):
        for module, tree in trees().items():
            for node in ast.walk(tree):
                if isinstance(node, ast.ClassDef):
                    self.assertEqual(node.decorator_list, [], module)
                if isinstance(node, ast.FunctionDef):
                    for mark in node.decorator_list:
                        self.assertRegex(ast.unparse(mark), r"^(property|classmethod|staticmethod|\w+\.setter)$", module)

    def test_strings(self):
        for module, tree in trees().items():
            parents = parents_in(tree)
            for node in ast.walk(tree):
                if isinstance(node, ast.Constant) and isinstance(node.value, str) and not is_docstring(node, parents):
                    self.assertNotIn("%", node.value, module)
                    self.assertNotRegex(node.value, r"\btype\b|__", module)

    def test_exponents_are_literal(self):
        for module, tree in trees().items():
            for node in ast.walk(tree):
                if isinstance(node, ast.BinOp) and isinstance(node.op, ast.Pow):
                    self.assertIsInstance(node.right, (ast.Constant, ast.Name), (module, node.lineno))

    def test_attributes_that_are_read_are_set(self):
        all_trees = trees()
        named = set(METHODS)
        for tree in all_trees.values():
            for node in ast.walk(tree):
                if isinstance(node, ast.Attribute) and isinstance(node.ctx, ast.Store):
                    named.add(node.attr)
                if isinstance(node, ast.FunctionDef):
                    named.add(node.name)
        for module, tree in all_trees.items():
            for node in ast.walk(tree):
                if isinstance(node, ast.Attribute):
                    self.assertIn(node.attr, named, (module, node.lineno))


if __name__ == "__main__":
    unittest.main()
