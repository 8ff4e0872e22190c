"""The form of the package: its interface stands where the document lists it, in the small language it is bound to."""

import ast
import builtins
import importlib
import os
import unittest

FOLDER = os.path.join(os.path.dirname(os.path.dirname(os.path.abspath(__file__))), "piecesseen")
INTERFACE = {
    "errors": {
        "PieceError": None, "BadLanguage": ["part"], "BadLine": ["line"], "BadText": ["value"], "BadView": ["value"],
        "BadPlace": ["place"], "OtherLetters": None, "NoJudge": ["paper"], "Unjudged": ["pair"],
        "NothingToUndo": None, "NoLanguage": ["name"], "InvalidCommand": None,
    },
    "languages": {"is_letters": ["thing"], "is_text": ["letters", "thing"], "Language": ["letters", "rows", "ends"]},
    "makers": {
        "finite": ["letters", "*texts"], "having": ["letters", "piece", "least=1"], "beginning": ["letters", "text"],
        "ending": ["letters", "text"], "lengths": ["letters", "period", "rests"],
    },
    "views": {
        "pieces_of": ["width", "text"], "view_of": ["width", "top", "text"],
        "view_behind": ["width", "top", "view", "letter"], "joined": ["width", "top", "view", "other"],
        "repeated": ["width", "top", "view", "many"], "views": ["letters", "width", "top"],
        "first_text": ["letters", "width", "top", "view"], "view_holds": ["letters", "width", "top", "thing"],
    },
    "forbidding": {
        "is_judge": ["letters", "thing"], "accepts": ["judge", "text"], "language_of": ["letters", "judge"],
        "learned": ["width", "*texts"], "judge_of": ["language", "width"], "least_forbidding": ["language"],
    },
    "occurring": {"is_occurring": ["language", "width"], "least_occurring": ["language"]},
    "counting": {
        "is_counting": ["language", "width", "top"], "table_of": ["language", "width", "top"],
        "corners": ["language", "most_width", "most_top"],
    },
    "verdicts": {
        "verdict": ["language", "kind"], "verdict_holds": ["language", "kind", "thing"], "is_of": ["language", "kind"],
        "twins": ["language", "paper", "width", "top=1"],
    },
    "shadows": {
        "shadow": ["language", "width", "top=1"], "core": ["language", "width", "top=1"],
        "common_view": ["one", "other", "width", "top=1"],
    },
    "watching": {
        "is_enough": ["language", "width", "top", "pieces"], "fewest_watched": ["language", "width", "top"],
        "watching_holds": ["language", "width", "top", "thing"],
    },
    "judges": {"Judge": ["language", "width", "top=1"], "Stream": ["judge"]},
    "kept": {"Kept": ["letters", "width", "top=1", "text=''"]},
    "findings": {"finding_holds": ["thing"]},
    "console": {"Console": []},
}
METHODS = {
    "Language": {
        "__contains__": None, "__len__": None, "__bool__": None, "__eq__": None, "__le__": None, "__or__": None,
        "__and__": None, "__sub__": None, "__add__": None, "__invert__": None, "__str__": None, "starred": [],
        "turned": [], "behind": ["text"], "with_letters": ["letters"], "in_order": [], "many_of": ["length"],
        "read": ["text"],
    },
    "Judge": {"__call__": ["text"], "at": ["view"]},
    "Stream": {"saw": ["letter"], "back": [], "followed": ["other"], "view": [], "answer": [], "length": []},
    "Kept": {
        "text": [], "view": [], "__len__": [], "__getitem__": None, "put": ["place", "text"], "cut": ["start", "stop"],
        "undo": [],
    },
    "Console": {"say": ["command"]},
}
PROPERTIES = {"Stream": ("view", "answer", "length"), "Kept": ("text", "view")}
LIBRARY = {"math": ("lcm",)}
BUILTINS = set((
    "len range enumerate zip min max sum abs sorted reversed int str bool list tuple dict set isinstance ord repr any "
    "all divmod pow iter next map Exception ValueError TypeError KeyError IndexError LookupError ZeroDivisionError "
    "RuntimeError NotImplementedError StopIteration NotImplemented"
).split())
VALUE_METHODS = set((
    "append clear copy count endswith extend find get index insert isalnum isalpha isdigit islower isspace isupper "
    "items join keys ljust lower lstrip partition pop remove replace reverse rfind rjust rpartition rsplit rstrip "
    "setdefault split splitlines startswith strip update upper values zfill bit_length removeprefix removesuffix "
    "rindex isascii isdecimal isnumeric add discard"
).split())
BARRED = set("register mro elements open input law version_info with_traceback add_note".split())
NODES_LEFT_OUT = (ast.GeneratorExp, ast.Global, ast.AsyncFunctionDef, ast.AnnAssign, ast.Div, ast.Import, ast.Await)


def sources():
    """The text of each file of the package, by its module's name."""
    found = {}
    for name in sorted(os.listdir(FOLDER)):
        if name != "__pycache__":
            with open(os.path.join(FOLDER, name), encoding="utf-8") as file:
                found[name] = file.read()
    return found


def trees():
    return {name: ast.parse(text) for name, text in sources().items()}


def nodes(kind):
    """(file, node) for each node of a kind in the package."""
    return [(name, node) for name, tree in trees().items() for node in ast.walk(tree) if isinstance(node, kind)]


def definitions(tree):
    return {node.name: node for node in tree.body if isinstance(node, (ast.FunctionDef, ast.ClassDef))}


def parameters(function):
    """The parameters of a function as the interface writes them."""
    names = [argument.arg for argument in function.args.args]
    defaults = function.args.defaults
    for at, default in enumerate(defaults, start=len(names) - len(defaults)):
        names[at] = f"{names[at]}={ast.unparse(default)}"
    return names + ([f"*{function.args.vararg.arg}"] if function.args.vararg else [])


class InterfaceTest(unittest.TestCase):
    def test_functions_and_classes(self):
        for module, wanted in INTERFACE.items():
            found = definitions(trees()[module + ".py"])
            for name, names in wanted.items():
                node = found[name]
                if isinstance(node, ast.ClassDef):
                    made = [part for part in node.body if getattr(part, "name", "") == "__init__"]
                    self.assertEqual(bool(made), names is not None, name)
                    self.assertTrue(all(parameters(part)[1:] == names for part in made), name)
                else:
                    self.assertEqual(parameters(node), names)

    def test_methods(self):
        for _, node in nodes(ast.ClassDef):
            found = {part.name: part for part in node.body if isinstance(part, ast.FunctionDef)}
            for name, names in METHODS.get(node.name, {}).items():
                self.assertIn(name, found)
                if names is not None:
                    self.assertEqual(parameters(found[name])[1:], names)
            for name, part in found.items():
                decorators = [ast.unparse(decorator) for decorator in part.decorator_list]
                self.assertEqual("property" in decorators, name in PROPERTIES.get(node.name, ()), (node.name, name))

    def test_each_name_is_defined_where_it_is_listed(self):
        for module, wanted in INTERFACE.items():
            imported = importlib.import_module("piecesseen." + module)
            for name in wanted:
                self.assertEqual(getattr(imported, name).__module__, "piecesseen." + module)


class FormTest(unittest.TestCase):
    def test_files_and_sizes(self):
        for name, text in sources().items():
            self.assertTrue(name.endswith(".py") and name == name.lower(), name)
            self.assertTrue(all(sign == "\n" or " " <= sign <= "~" for sign in text), name)
            self.assertLessEqual(len(text.splitlines()), 399, name)
            self.assertLessEqual(max(len(line) for line in text.splitlines()), 120, name)
        for name, node in nodes(ast.FunctionDef):
            self.assertLessEqual(node.end_lineno - node.lineno + 1, 40, (name, node.name))

    def test_imports(self):
        known = {name: definitions(tree) for name, tree in trees().items()}
        imported = {name: [] for name in known}
        for name, node in nodes(ast.ImportFrom):
            if node.module in LIBRARY:
                for alias in node.names:
                    self.assertIn(alias.name, LIBRARY[node.module])
                    self.assertIsNone(alias.asname)
                continue
            package, _, module = node.module.partition(".")
            self.assertEqual((package, node.level), ("piecesseen", 0), name)
            imported[name].append(module + ".py")
            for alias in node.names:
                self.assertIn(alias.name, known[module + ".py"], name)
                self.assertIsNone(alias.asname)
        free = []
        while len(free) < len(imported):
            ready = [name for name in imported if name not in free and all(part in free for part in imported[name])]
            self.assertTrue(ready, "files import from each other")
            free += ready

    def test_kinds_of_nodes(self):
        for name, node in nodes(NODES_LEFT_OUT):
            self.fail((name, node.lineno, node.__class__.__name__))
        for name, node in nodes(ast.Constant):
            self.assertNotIsInstance(node.value, (float, complex), (name, node.lineno))
            if isinstance(node.value, str):
                self.assertNotIn("%", node.value, (name, node.lineno))
        for name, node in nodes((ast.FunctionDef, ast.ClassDef)):
            for decorator in node.decorator_list:
                self.assertIn(ast.unparse(decorator), ("property", "staticmethod", "classmethod"), (name, node.name))

    def test_names(self):
        bound = set()
        for name, node in nodes((ast.Name, ast.arg, ast.FunctionDef, ast.ClassDef, ast.alias, ast.ExceptHandler)):
            if isinstance(node, ast.Name):
                found = node.id if isinstance(node.ctx, ast.Store) else None
            else:
                found = node.arg if isinstance(node, ast.arg) else node.name
            if found and not isinstance(node, ast.FunctionDef):
                self.assertNotIn(found, dir(builtins), (name, node.lineno))
            if found:
                self.assertNotIn(found, BARRED, (name, node.lineno))
                bound.add(found)
        for name, node in nodes(ast.Name):
            if node.id not in bound and node.id not in ("classmethod", "property", "staticmethod"):
                self.assertIn(node.id, BUILTINS, (name, node.lineno))

    def test_what_is_sorted(self):
        # Languages are compared by <=, so only what is plainly no language may be sorted.
        for name, node in nodes(ast.Call):
            if isinstance(node.func, ast.Name) and node.func.id in ("sorted", "min", "max"):
                by_length = [ast.unparse(keyword) for keyword in node.keywords] == ["key=len"]
                self.assertTrue(by_length or ast.unparse(node.args[0]).startswith("set("), (name, node.lineno))

    def test_generators(self):
        found = [node for _, node in nodes(ast.FunctionDef)]
        generators = [node.name for node in found if any(isinstance(part, ast.Yield) for part in ast.walk(node))]
        for name in generators:
            self.assertEqual([node.name for node in found].count(name), 1)
            self.assertNotIn(name, VALUE_METHODS)

    def test_methods_that_are_called(self):
        own = {node.name for _, node in nodes(ast.FunctionDef)}
        for name, node in nodes(ast.Call):
            if isinstance(node.func, ast.Attribute):
                self.assertIn(node.func.attr, own | VALUE_METHODS, (name, node.lineno))


if __name__ == "__main__":
    unittest.main()
