"""That the names of the document's interface stand where it lists them, and the code's form."""

import ast
import importlib
import pathlib
import unittest
from collections import Counter

TESTS = pathlib.Path(__file__).resolve().parent
PACKAGE = TESTS.parent / "onlybuilt"

# The functions that have landed, with the names of their arguments.
FUNCTIONS = {
    "statements": {
        "joints": ["a"], "knots": ["a"], "letters": ["a"], "parts": ["a"], "turned": ["a", "book"],
    },
    "words": {"is_name": ["text"], "told": ["a"]},
    "reader": {"read": ["text"]},
    "growths": {
        "is_growth": ["stands"], "holds": ["growth", "k", "a"], "seen": ["growth", "a"],
        "above": ["growth", "k"], "cut": ["growth", "k"], "under": ["growths", "letters"],
    },
    "folds": {"folded": ["growth", "statements"]},
    "likes": {"compared": ["one", "other"]},
    "papers": {
        "shows": ["givens", "paper"], "shows_by": ["book", "givens", "paper"],
        "turned_paper": ["paper", "book"],
    },
    "shifts": {
        "size": ["paper"], "deep": ["paper"], "moved": ["paper", "at", "by"],
        "put_in": ["paper", "at", "other"],
    },
    "steps": {"step": ["many", "paper"]},
    "runs": {"run": ["many", "paper", "steps", "room"]},
    "seek": {"seek": ["givens", "goal"]},
    "middles": {"middle": ["ones", "others", "goal"]},
    "doubles": {"doubled": ["a"], "negative": ["a"], "settled": ["a"]},
    "tables": {"true_at": ["row", "a"], "twice": ["givens", "goal"]},
    "code": {"code": ["paper"]},
    "machine": {"run_code": ["rows", "most"]},
    "sheets": {"sheet": ["givens", "paper"]},
    "lines": {"read_sheet": ["rows"]},
}

# The methods of the class Hall, with the names of their arguments.
HALL = {
    "claim": ["name", "statement"], "show": ["name", "paper"], "drop": ["name"], "strike": ["name"], "back": [],
    "names": [], "statement": ["name"], "paper": ["name"], "__len__": [], "standing": [], "why": ["name"],
    "full": ["name"], "sought": ["name", "names"],
}

A = ("letter", "a")

# For each argument a value that may be handed in, where a function asks for no other one.
VALUES = {
    "a": A, "book": {"a": ("never",)}, "text": "a", "stands": [(["a"], [])],
    "growth": [([], [1]), (["a"], [])], "k": 0, "growths": [[(["a"], [])]], "letters": ["a"],
    "statements": [A], "one": [([], [])], "other": [(["a"], [])], "givens": [A], "paper": ("use", 0),
    "at": 0, "by": 1, "many": 1, "steps": 3, "room": 9, "goal": A, "ones": [A], "others": [A], "row": ["a"],
    "rows": [("make", 2), ("back",), ("take", 0), ("back",)], "most": 9,
}
OTHERS = {
    "put_in": {"other": ("use", 1)}, "middle": {"others": [("then", A, ("letter", "b"))]},
    "code": {"paper": ("make", A, ("use", 0))}, "read_sheet": {"rows": ["1. a by given"]},
}


def trees(folder=PACKAGE):
    return [(path, ast.parse(path.read_text())) for path in sorted(folder.glob("*.py"))]


def bound(body):
    """The names that the rows of a file or of a class bind there, each as often as they bind it."""
    names = []
    for row in body:
        if isinstance(row, (ast.FunctionDef, ast.ClassDef)):
            names.append(row.name)
        elif isinstance(row, (ast.Import, ast.ImportFrom)):
            names.extend([told.asname or told.name for told in row.names])
        elif isinstance(row, (ast.Assign, ast.AnnAssign)):
            targets = row.targets if isinstance(row, ast.Assign) else [row.target]
            names.extend([node.id for target in targets for node in ast.walk(target) if isinstance(node, ast.Name)])
    return names


def bound_again(tree):
    """The names that are bound more than once at the top of a file, or in one of its classes."""
    bodies = [tree.body] + [node.body for node in ast.walk(tree) if isinstance(node, ast.ClassDef)]
    return [name for body in bodies for name, many in Counter(bound(body)).items() if many > 1]


class Interface(unittest.TestCase):

    def test_functions_are_defined_in_their_files_with_their_arguments(self):
        found = {path.stem: tree for path, tree in trees()}
        for file, functions in FUNCTIONS.items():
            defined = {
                node.name: [told.arg for told in node.args.args]
                for node in found[file].body if isinstance(node, ast.FunctionDef)
            }
            for name, arguments in functions.items():
                with self.subTest(file=file, name=name):
                    self.assertEqual(defined.get(name), arguments)

    def test_the_methods_of_a_hall_are_defined_in_the_class(self):
        tree = dict((path.stem, tree) for path, tree in trees())["hall"]
        [made] = [node for node in tree.body if isinstance(node, ast.ClassDef) and node.name == "Hall"]
        defined = {
            node.name: [told.arg for told in node.args.args][1:]
            for node in made.body if isinstance(node, ast.FunctionDef)
        }
        for name, arguments in HALL.items():
            with self.subTest(name=name):
                self.assertEqual(defined.get(name), arguments)
        self.assertEqual(defined["__init__"], [])

    def test_arguments_may_be_handed_in_by_name(self):
        for file, functions in FUNCTIONS.items():
            module = importlib.import_module(f"onlybuilt.{file}")
            for name, arguments in functions.items():
                with self.subTest(file=file, name=name):
                    told = getattr(module, name)
                    values = {word: VALUES[word] for word in arguments} | OTHERS.get(name, {})
                    self.assertEqual(told(**values), told(*[values[word] for word in arguments]))


class Form(unittest.TestCase):

    def test_the_package_has_python_files_alone(self):
        others = [
            path.name for path in PACKAGE.iterdir()
            if path.suffix != ".py" and path.name != "__pycache__"
        ]
        self.assertEqual(others, [])

    def test_lengths_and_signs(self):
        for path in PACKAGE.glob("*.py"):
            text = path.read_text()
            with self.subTest(path=path.name):
                self.assertTrue(all(sign == "\n" or " " <= sign <= "~" for sign in text))
                self.assertLessEqual(max(len(row) for row in text.splitlines()), 120)
                self.assertLessEqual(len(text.splitlines()), 399)

    def test_functions_have_at_most_40_lines(self):
        for path, tree in trees():
            for node in ast.walk(tree):
                if isinstance(node, ast.FunctionDef):
                    with self.subTest(path=path.name, name=node.name):
                        self.assertLessEqual(node.end_lineno - node.lineno + 1, 40)

    def test_each_name_is_bound_once(self):
        # In the tests, too, as a test that is bound again would not be run.
        for folder in (PACKAGE, TESTS):
            for path, tree in trees(folder):
                with self.subTest(path=path.name):
                    self.assertEqual(bound_again(tree), [])

    def test_names_that_are_bound_again_are_found(self):
        once = "def f():\n    pass\n\n\n"
        self.assertEqual(bound_again(ast.parse(once)), [])
        self.assertEqual(bound_again(ast.parse(once * 2)), ["f"])
        self.assertEqual(bound_again(ast.parse("from a import f\n" + once)), ["f"])
        self.assertEqual(bound_again(ast.parse(once + "f = 1")), ["f"])
        self.assertEqual(bound_again(ast.parse("class C:\n    n = 1\n    def n(self):\n        pass")), ["n"])

    def test_nothing_is_imported_from_outside(self):
        for path, tree in trees():
            for node in ast.walk(tree):
                self.assertNotIsInstance(node, ast.Import, path.name)
                if isinstance(node, ast.ImportFrom):
                    with self.subTest(path=path.name, module=node.module):
                        self.assertTrue(node.module.startswith("onlybuilt."))


if __name__ == "__main__":
    unittest.main()
