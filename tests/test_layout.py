"""Where the names of the interface stand, and what can be counted of the rules of the language."""

import ast
import pathlib
import unittest

PACKAGE = pathlib.Path(__file__).resolve().parent.parent / "honeyturns"
LIBRARY = ("__future__", "collections", "heapq", "itertools", "math")
FUNCTIONS = {
    "hills.py": {
        "is_hill": ["thing"],
        "year_drops": ["hill"],
        "ring_needs": ["hill"],
        "given_by": ["hill", "day"],
        "open_from": ["hill", "day"],
        "day_of": ["hill", "drops"],
    },
    "turns.py": {
        "is_state": ["hill", "thing"],
        "turn": ["hill", "state"],
        "turns": ["hill", "state", "many"],
    },
    "lines.py": {
        "line_of": ["hill", "state"],
        "stretches": ["hill"],
        "lost_at": ["hill", "number"],
        "led": ["hill", "ant", "line"],
    },
    "windows.py": {
        "first_in": ["begin", "step", "around", "low", "high"],
        "last_below": ["begin", "step", "around", "low", "high", "many"],
    },
    "sparing.py": {
        "common": ["hill"],
        "sparing": ["hill", "ant"],
        "spares": ["hill"],
        "lost_in_all": ["hill", "state"],
    },
    "papers.py": {
        "paper": ["hill"],
        "shows_paper": ["hill", "thing"],
    },
    "losses.py": {
        "next_loss": ["hill", "state"],
        "losses": ["hill", "state", "many"],
    },
    "rounds.py": {
        "pace": ["hill"],
        "round_from": ["hill", "state"],
        "lost_a_round": ["hill"],
    },
    "far.py": {
        "behind": ["hill", "state", "many"],
        "lost_by": ["hill", "state", "many"],
        "gone_by": ["hill", "state", "day"],
        "lost_until": ["hill", "state", "day"],
    },
    "back.py": {
        "latest_line": ["hill", "ant", "many", "line"],
        "least_pot": ["hill", "day", "ant", "many", "by"],
        "pots_seen": ["hill", "day", "ant", "evenings"],
    },
    "pairs.py": {
        "gaps": ["hill", "one", "other", "many"],
        "meeting": ["hill", "one", "other"],
        "rounds_behind": ["hill", "one", "other"],
    },
    "pots.py": {
        "with_pot": ["hill", "most"],
        "enough": ["hill"],
        "least_sparing": ["hill"],
        "least_for": ["hill", "rounds", "years"],
    },
    "houses.py": {
        "house": ["hill", "ant", "many"],
        "led_by": ["house", "line"],
        "joined": ["one", "other"],
    },
    "texts.py": {
        "hill_text": ["hill"],
        "hill_in": ["text"],
    },
    "desk.py": {
        "answers": ["text"],
    },
}
CLASSES = {
    "errors.py": [
        "Unlike", "Barren", "BadText", "BadRow", "NoDay", "NoAnt", "NoDeed", "Already", "Today", "Last", "Dry",
    ],
    "vine.py": ["Vine"],
}
METHODS = {
    "__init__": ["hill", "state"],
    "go": ["many"],
    "pour": ["drops"],
    "dip": ["drops"],
    "weather": ["day", "drops"],
    "unlock": ["day"],
    "lock": ["day"],
    "need": ["ant", "many"],
    "adopt": ["ant", "many"],
    "part": ["ant"],
    "pot": ["most"],
    "undo": [],
    "hill": [],
    "state": [],
    "lost": [],
    "gone": [],
    "deeds": [],
    "forecast": ["many"],
    "as_of": ["many"],
    "twin": [],
    "log": [],
    "__eq__": ["other"],
    "__len__": [],
    "__repr__": [],
}


def parsed(path):
    return ast.parse(path.read_text(encoding="utf-8"))


class Interface(unittest.TestCase):
    def test_functions_stand_in_their_files(self):
        for file, functions in FUNCTIONS.items():
            defined = {
                node.name: [arg.arg for arg in node.args.args]
                for node in parsed(PACKAGE / file).body if isinstance(node, ast.FunctionDef)
            }
            for name, parameters in functions.items():
                with self.subTest(file=file, name=name):
                    self.assertEqual(defined.get(name), parameters)

    def test_classes_stand_in_their_files(self):
        for file, classes in CLASSES.items():
            defined = [node.name for node in parsed(PACKAGE / file).body if isinstance(node, ast.ClassDef)]
            for name in classes:
                with self.subTest(file=file, name=name):
                    self.assertIn(name, defined)

    def test_methods_stand_in_the_class_itself(self):
        vine = [node for node in parsed(PACKAGE / "vine.py").body if isinstance(node, ast.ClassDef)][0]
        defined = {
            node.name: [arg.arg for arg in node.args.args] for node in vine.body if isinstance(node, ast.FunctionDef)
        }
        for name, parameters in METHODS.items():
            with self.subTest(name=name):
                self.assertEqual(defined.get(name), ["self"] + parameters)


class Rules(unittest.TestCase):
    def files(self):
        found = sorted(PACKAGE.rglob("*.py"))
        self.assertIn(PACKAGE / "__init__.py", found)
        return found

    def test_signs_and_sizes(self):
        for path in self.files():
            text = path.read_bytes().decode("ascii")
            rows = text.split("\n")
            with self.subTest(path=path.name):
                self.assertTrue(all(sign == "\n" or " " <= sign <= "~" for sign in text))
                self.assertLessEqual(len(rows), 399)
                self.assertLessEqual(max(len(row) for row in rows), 120)

    def test_functions_are_small(self):
        for path in self.files():
            for node in ast.walk(parsed(path)):
                if isinstance(node, ast.FunctionDef):
                    with self.subTest(path=path.name, name=node.name):
                        self.assertLessEqual(node.end_lineno - node.lineno + 1, 40)

    def test_imports_are_the_packages_own(self):
        for path in self.files():
            for node in ast.walk(parsed(path)):
                with self.subTest(path=path.name):
                    self.assertNotIsInstance(node, ast.Import)
                    if isinstance(node, ast.ImportFrom) and node.module not in LIBRARY:
                        self.assertEqual(node.level, 0)
                        self.assertTrue(node.module.startswith("honeyturns."))


if __name__ == "__main__":
    unittest.main()
