"""The names of the interface, and those rules of the form that a short test can see."""
import ast
import importlib
import inspect
import pathlib
import unittest

PACKAGE = pathlib.Path(__file__).resolve().parent.parent / "seenbefore"

# For each module its functions, and the methods of its classes, with their arguments.
FUNCTIONS = {
    "streams": {
        "require_stream": ["value", "words"],
        "numbered": ["stream"],
        "is_numbered": ["stream"],
        "are_alike": ["one", "two"],
        "exchanged": ["stream", "one", "two"],
    },
    "runs": {
        "run": ["watcher", "stream"],
        "verdict_of": ["watcher", "stream"],
    },
    "reached": {
        "reached_states": ["watcher"],
        "shortest_stream": ["watcher", "state"],
    },
    "situations": {
        "cases": ["pair", "situation"],
        "step": ["pair", "situation", "word", "case"],
        "reached_situations": ["pair", "situation"],
        "situation_behind": ["pair", "stream"],
        "verdicts_from": ["pair", "situation", "stream"],
    },
    "claims": {
        "require_claim": ["pair", "claim"],
        "decide": ["pair", "claim"],
    },
    "checker": {
        "first_fault": ["pair", "certificate"],
    },
    "joined": {
        "turned_table": ["table"],
        "joined_table": ["watchers", "one", "two"],
    },
    "needed": {
        "needed_places": ["watcher"],
        "dropped": ["watcher"],
    },
    "least": {
        "symmetries": ["watcher", "state"],
        "least": ["watcher"],
    },
    "texts": {
        "format_watcher": ["watcher"],
        "format_stream": ["stream"],
        "parse_watcher": ["text"],
        "parse_stream": ["text", "words"],
    },
}
METHODS = {
    ("watchers", "Watcher"): {
        "__init__": ["self", "words"],
        "__len__": ["self"],
        "add_state": ["self", "verdict", "held"],
        "set_verdict": ["self", "state", "verdict"],
        "add_rule": ["self", "state", "word", "test", "target", "sources"],
        "remove_rule": ["self", "state", "word", "test"],
        "verdicts": ["self"],
        "held_counts": ["self"],
        "rules": ["self"],
        "twin": ["self"],
    },
    ("runs", "Follower"): {
        "__init__": ["self", "watcher"],
        "read": ["self", "word", "value"],
        "current_state": ["self"],
        "current_verdict": ["self"],
        "held_values": ["self"],
        "rewind": ["self", "many"],
    },
    ("sessions", "Session"): {
        "__init__": ["self", "pair"],
        "pair": ["self"],
        "add_state": ["self", "side", "verdict", "held"],
        "set_verdict": ["self", "side", "state", "verdict"],
        "add_rule": ["self", "side", "state", "word", "test", "target", "sources"],
        "remove_rule": ["self", "side", "state", "word", "test"],
        "checkpoint": ["self"],
        "restore": ["self", "number"],
        "decide": ["self", "claim"],
        "record": ["self", "claim"],
        "recorded": ["self", "number"],
        "standing": ["self", "number"],
    },
}


def module(name):
    return importlib.import_module("seenbefore." + name)


class InterfaceTest(unittest.TestCase):
    def test_functions_are_defined_in_their_files_with_their_arguments(self):
        for name, functions in FUNCTIONS.items():
            for function, arguments in functions.items():
                with self.subTest(function):
                    found = getattr(module(name), function)
                    self.assertEqual(found.__module__, "seenbefore." + name)
                    self.assertEqual(list(inspect.signature(found).parameters), arguments)

    def test_methods_are_defined_in_their_classes_with_their_arguments(self):
        for (name, cls), methods in METHODS.items():
            found = getattr(module(name), cls)
            self.assertEqual(found.__module__, "seenbefore." + name)
            for method, arguments in methods.items():
                with self.subTest(method):
                    self.assertEqual(list(inspect.signature(vars(found)[method]).parameters), arguments)


class FilesTest(unittest.TestCase):
    def trees(self):
        for path in sorted(PACKAGE.rglob("*.py")):
            yield path.name, ast.parse(path.read_text("utf-8"))

    def test_the_folder_holds_nothing_but_python_files(self):
        names = [path.name for path in PACKAGE.iterdir() if path.name != "__pycache__"]
        self.assertIn("__init__.py", names)
        self.assertEqual([name for name in names if not name.endswith(".py")], [])

    def test_characters_and_sizes(self):
        for path in sorted(PACKAGE.rglob("*.py")):
            text = path.read_text("utf-8")
            with self.subTest(path.name):
                self.assertEqual([c for c in text if c != "\n" and not " " <= c <= "~"], [])
                self.assertLessEqual(len(text.splitlines()), 399)
                self.assertLessEqual(max(map(len, text.splitlines())), 120)

    def test_functions_are_short(self):
        for name, tree in self.trees():
            for node in ast.walk(tree):
                if isinstance(node, ast.FunctionDef):
                    with self.subTest(name, function=node.name):
                        self.assertLessEqual(node.end_lineno - node.lineno + 1, 40)

    def test_imports_are_from_the_package_by_full_names(self):
        for name, tree in self.trees():
            for node in ast.walk(tree):
                self.assertNotIsInstance(node, ast.Import, name)
                if isinstance(node, ast.ImportFrom):
                    self.assertEqual(node.level, 0)
                    names = {(part.name, part.asname) for part in node.names}
                    if node.module == "itertools":
                        self.assertLessEqual(names, {("combinations", None), ("permutations", None)})
                    else:
                        self.assertEqual(node.module.split(".")[0], "seenbefore")


if __name__ == "__main__":
    unittest.main()
