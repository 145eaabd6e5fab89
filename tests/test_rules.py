"""Rules of the language that can be seen in the code: sizes, characters, names, and what operators may change."""

import ast
import builtins
import importlib
import pathlib
import unittest

PACKAGE = pathlib.Path(__file__).resolve().parent.parent / "unopened"
TREES = {path.stem: ast.parse(path.read_text(encoding="utf-8")) for path in sorted(PACKAGE.glob("*.py"))}

# The functions and classes that the interface of the document lists, by the file in which each one is defined.
INTERFACE = {
    "names": "is_name is_number", "series": "Series", "texts": "text_of read_net", "nets": "Net",
    "boxes": "Box Plain Odd Keep Pair", "running": "run rows heard", "forms": "Form",
    "sheets": "Sheet sheet_of form_of joined", "facts": "is_fact groups keeps", "classes": "classes silent",
    "papers": "Paper Alike Parted", "free": "FreeRun", "comparing": "compare are_alike first_beat least_facts",
    "lean": "lean fewest moves", "claims": "is_silent relation lateness copies needless", "sessions": "Session",
    "shelves": "Shelf", "pages": "write_page read_page", "desk": "Desk",
}
LIBRARY = {"math": {"gcd"}, "itertools": {"combinations"}}
# Interactive examples bind the name _ there, too.
TAKEN = set(vars(builtins)) - {"_"}
BUILTINS = set(
    "len range enumerate zip min max sum abs sorted reversed int str bool list tuple dict set isinstance ord repr any "
    "all divmod super property staticmethod ValueError LookupError IndexError NotImplemented".split()
)
# The methods of builtin values that may be called.
METHODS = set(
    "append clear copy count endswith extend find get index insert isalnum isalpha isdigit islower isspace isupper "
    "items join keys ljust lower lstrip partition pop remove replace reverse rfind rjust rpartition rsplit rstrip "
    "setdefault split splitlines startswith strip update upper values zfill bit_length removeprefix removesuffix "
    "isdecimal".split()
)
CHANGING = set("append clear extend insert pop remove reverse setdefault update sort add discard".split())
OPERATORS = {f"__{name}__" for name in (
    "lt le gt ge ne add sub mul floordiv mod pow and or xor lshift rshift radd rsub rmul rfloordiv rmod rand ror rxor "
    "rlshift rrshift neg pos invert abs bool contains getitem eq repr str len"
).split()}
NOWHERE = set("mro elements open input law version_info with_traceback add_note register eval exec type globals".split())


def functions_in(tree):
    """The pairs (class or None, function) of all functions and methods of a file, nested ones left out."""
    found = [(None, node) for node in tree.body if isinstance(node, ast.FunctionDef)]
    for made in tree.body:
        if isinstance(made, ast.ClassDef):
            found.extend((made.name, node) for node in made.body if isinstance(node, ast.FunctionDef))
    return found


FUNCTIONS = [(file, made, node) for file, tree in TREES.items() for made, node in functions_in(tree)]
CLASSES = {node.name: node for tree in TREES.values() for node in tree.body if isinstance(node, ast.ClassDef)}


def is_setter(node):
    return any(isinstance(each, ast.Attribute) and each.attr == "setter" for each in node.decorator_list)


def is_property(node):
    return any(isinstance(each, ast.Name) and each.id == "property" for each in node.decorator_list)


def called_by(node):
    """The functions and methods of the package that a function may call, by their names."""
    bare, methods = set(), set()
    for each in ast.walk(node):
        if isinstance(each, ast.Call) and isinstance(each.func, ast.Name):
            bare.add(each.func.id)
        if isinstance(each, ast.Call) and isinstance(each.func, ast.Attribute):
            methods.add(each.func.attr)
    classes = {"__init__": bare & set(CLASSES)}
    return [
        (file, made, other) for file, made, other in FUNCTIONS
        if (made is None and other.name in bare) or (made is not None and other.name in methods)
        or (made is not None and other.name == "__init__" and made in classes["__init__"])
    ]


def what_operators_run():
    waiting = [(file, made, node) for file, made, node in FUNCTIONS
               if made is not None and (node.name in OPERATORS or is_property(node))]
    reached = {}
    while waiting:
        file, made, node = waiting.pop()
        if (file, made, node.name) not in reached:
            reached[file, made, node.name] = node
            waiting.extend(called_by(node))
    return reached


def is_new(value):
    """Whether an expression surely makes a new list, dict or set."""
    if isinstance(value, (ast.List, ast.Dict, ast.Set, ast.ListComp, ast.DictComp, ast.SetComp)):
        return True
    if isinstance(value, ast.Call) and isinstance(value.func, ast.Name):
        return value.func.id in ("list", "dict", "set", "sorted")
    return isinstance(value, ast.Subscript) and isinstance(value.slice, ast.Slice)


def owned_by(node):
    """The local names of a function that are only ever assigned new lists, dicts and sets."""
    given, spoiled = set(), {each.arg for each in ast.walk(node) if isinstance(each, ast.arg)}
    for each in ast.walk(node):
        if isinstance(each, ast.Assign):
            for target in each.targets:
                names = {name.id for name in ast.walk(target) if isinstance(name, ast.Name)}
                plain = isinstance(target, ast.Name) and is_new(each.value)
                (given if plain else spoiled).update(names if not isinstance(target, ast.Subscript) else set())
        elif isinstance(each, (ast.For, ast.comprehension)):
            spoiled.update(name.id for name in ast.walk(each.target) if isinstance(name, ast.Name))
    return given - spoiled


def changes_in(node):
    """The rows in which a function changes what it may not have created, or calls what it holds."""
    owned = owned_by(node)
    local = {each.arg for each in ast.walk(node) if isinstance(each, ast.arg)}
    local.update(each.id for each in ast.walk(node) if isinstance(each, ast.Name) and isinstance(each.ctx, ast.Store))
    rows = []
    for each in ast.walk(node):
        if isinstance(each, (ast.Attribute, ast.Subscript)) and isinstance(each.ctx, (ast.Store, ast.Del)):
            own = isinstance(each.value, ast.Name) and each.value.id in owned
            on_self = isinstance(each, ast.Attribute) and node.name == "__init__" and ast.unparse(each.value) == "self"
            if not own and not on_self:
                rows.append(each.lineno)
        if isinstance(each, ast.Call) and isinstance(each.func, ast.Attribute) and each.func.attr in CHANGING:
            if not isinstance(each.func.value, ast.Name) or each.func.value.id not in owned:
                rows.append(each.lineno)
        if isinstance(each, ast.Call) and isinstance(each.func, ast.Name) and each.func.id in local:
            rows.append(each.lineno)
        if isinstance(each, (ast.AugAssign, ast.Yield, ast.YieldFrom, ast.Global, ast.Nonlocal)):
            rows.append(each.lineno)
    return rows


class TestFiles(unittest.TestCase):
    def test_sizes_and_characters(self):
        for path in sorted(PACKAGE.glob("*.py")):
            text = path.read_text(encoding="utf-8")
            lines = text.split("\n")
            self.assertLessEqual(len(lines), 399, path.name)
            self.assertLessEqual(max(len(line) for line in lines), 120, path.name)
            self.assertTrue(all(sign == "\n" or " " <= sign <= "~" for sign in text), path.name)
            for node in ast.walk(ast.parse(text)):
                if isinstance(node, ast.FunctionDef):
                    self.assertLessEqual(node.end_lineno - node.lineno + 1, 40, f"{path.name} {node.name}")
                if isinstance(node, ast.Constant) and isinstance(node.value, str):
                    self.assertNotIn("%", node.value, path.name)

    def test_the_folder_contains_modules_alone(self):
        self.assertTrue((PACKAGE / "__init__.py").is_file())
        others = [path.name for path in PACKAGE.iterdir() if path.suffix != ".py" and path.name != "__pycache__"]
        self.assertEqual(others, [])

    def test_the_interface_is_defined_in_its_files(self):
        for file, names in INTERFACE.items():
            module = importlib.import_module(f"unopened.{file}")
            for name in names.split():
                self.assertEqual(getattr(module, name).__module__, f"unopened.{file}", name)

    def test_imports(self):
        needs = {}
        for file, tree in TREES.items():
            needs[file] = []
            imports = [node for node in ast.walk(tree) if isinstance(node, (ast.Import, ast.ImportFrom))]
            self.assertEqual([node for node in imports if node not in tree.body], [], file)
            for node in imports:
                self.assertIsInstance(node, ast.ImportFrom, file)
                names = {each.name for each in node.names}
                used = {each.id for each in ast.walk(tree) if isinstance(each, ast.Name)}
                self.assertTrue(names <= used, f"{file} {names - used}")
                if node.module in LIBRARY:
                    self.assertTrue(names <= LIBRARY[node.module], file)
                else:
                    package, other = node.module.split(".")
                    self.assertEqual(package, "unopened", file)
                    bound = {each.name for each in TREES[other].body if hasattr(each, "name")}
                    bound.update(each.targets[0].id for each in TREES[other].body if isinstance(each, ast.Assign))
                    self.assertTrue(names <= bound, f"{file} {names - bound}")
                    needs[file].append(other)
        while needs:
            ready = [file for file in needs if not set(needs[file]) & set(needs)]
            self.assertTrue(ready, f"these files need each other: {sorted(needs)}")
            needs = {file: needs[file] for file in needs if file not in ready}


class TestCode(unittest.TestCase):
    def test_statements_and_expressions(self):
        barred = (ast.GeneratorExp, ast.AsyncFunctionDef, ast.Await, ast.Global, ast.Import, ast.Div, ast.AnnAssign,
                  ast.Set, ast.Nonlocal)
        for file, tree in TREES.items():
            for node in ast.walk(tree):
                self.assertNotIsInstance(node, barred, f"{file} {getattr(node, 'lineno', '')}")
                if isinstance(node, ast.Constant):
                    self.assertIn(type(node.value), (int, str, bool, type(None)), file)
                if isinstance(node, ast.ExceptHandler):
                    self.assertIsNotNone(node.type, file)

    def test_names(self):
        for file, tree in TREES.items():
            for node in ast.walk(tree):
                names = [getattr(node, key) for key in ["id", "attr", "arg", "name"]
                         if isinstance(getattr(node, key, None), str)]
                for name in names:
                    self.assertNotIn(name, NOWHERE, file)
                if isinstance(node, ast.Name) and isinstance(node.ctx, ast.Store):
                    self.assertFalse(node.id in TAKEN, f"{file} {node.id}")
                if isinstance(node, (ast.arg, ast.FunctionDef, ast.ClassDef)):
                    self.assertFalse(names[0] in TAKEN, f"{file} {names[0]}")
                if isinstance(node, ast.Name) and isinstance(node.ctx, ast.Load) and node.id in TAKEN:
                    self.assertIn(node.id, BUILTINS, file)

    def test_local_names_are_no_imports_or_classes(self):
        for file, tree in TREES.items():
            bound = {each.name for node in tree.body if isinstance(node, ast.ImportFrom) for each in node.names}
            bound.update(node.name for node in tree.body if isinstance(node, ast.ClassDef))
            for _, node in functions_in(tree):
                local = {each.arg for each in ast.walk(node) if isinstance(each, ast.arg)}
                local.update(each.id for each in ast.walk(node)
                             if isinstance(each, ast.Name) and isinstance(each.ctx, ast.Store))
                self.assertEqual(local & bound, set(), f"{file} {node.name}")

    def test_methods_that_are_called(self):
        own = {node.name for _, made, node in FUNCTIONS if made is not None}
        for file, tree in TREES.items():
            for node in ast.walk(tree):
                if isinstance(node, ast.Call) and isinstance(node.func, ast.Attribute):
                    self.assertIn(node.func.attr, own | METHODS, f"{file} {node.lineno}")
                if isinstance(node, ast.Call) and isinstance(node.func, ast.Name) and node.func.id == "set":
                    self.fail(f"{file} {node.lineno}: dicts do here")

    def test_a_name_is_a_method_or_an_attribute(self):
        methods = {node.name for _, made, node in FUNCTIONS
                   if made is not None and not is_property(node) and not is_setter(node)}
        assigned = {node.attr for tree in TREES.values() for node in ast.walk(tree)
                    if isinstance(node, ast.Attribute) and isinstance(node.ctx, ast.Store)}
        self.assertEqual(methods & assigned, set())

    def test_properties_without_setters_are_not_assigned(self):
        setters = {node.name for _, _, node in FUNCTIONS if is_setter(node)}
        only_read = {node.name for _, _, node in FUNCTIONS if is_property(node)} - setters
        self.assertEqual([sorted(setters), "beats" in only_read], [["limit"], True])
        for file, tree in TREES.items():
            for node in ast.walk(tree):
                if isinstance(node, ast.Attribute) and isinstance(node.ctx, ast.Store):
                    self.assertNotIn(node.attr, only_read, f"{file} {node.lineno}")

    def test_the_name_of_a_generator_is_no_other_one(self):
        names = [node.name for _, _, node in FUNCTIONS]
        for _, _, node in FUNCTIONS:
            if any(isinstance(each, (ast.Yield, ast.YieldFrom)) for each in ast.walk(node)):
                self.assertEqual(names.count(node.name), 1, node.name)


class TestOperators(unittest.TestCase):
    def test_what_operators_and_properties_run_changes_nothing(self):
        reached = what_operators_run()
        for place in [("series", "Series", "__add__"), ("polynomials", None, "product_of"),
                      ("polynomials", None, "cancelled"), ("forms", None, "late"), ("boxes", None, "is_dead")]:
            self.assertIn(place, reached)
        for place, node in reached.items():
            self.assertEqual(changes_in(node), [], place)

    def test_what_would_be_seen_as_a_change(self):
        for row in ["made = [0] * 3", "made = given", "made = [] if given else {}", "made, more = [], []"]:
            text = f"def call(given):\n    {row}\n    made[0] = 1\n    made.append(2)"
            self.assertEqual(changes_in(ast.parse(text).body[0]), [3, 4], row)
        for row in ["made = [0 for _ in range(3)]", "made = list(given)", "made = []", "made = given[1:]"]:
            text = f"def call(given):\n    {row}\n    made[0] = 1\n    made.append(2)"
            self.assertEqual(changes_in(ast.parse(text).body[0]), [], row)
        for row in ["given()", "given.held = 1", "given.held.append(1)", "number = 1; number += given", "del given[0]"]:
            self.assertEqual(changes_in(ast.parse(f"def call(given):\n    {row}").body[0]), [2], row)


if __name__ == "__main__":
    unittest.main()
