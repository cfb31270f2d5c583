"""The interface: which names stand in which file, their arguments, and what a file uses."""

import ast
import importlib
import inspect
import os
import unittest

import lookthrough

PACKAGE = os.path.dirname(lookthrough.__file__)

# The files that have landed, in order, with their defs, classes and these classes' methods.
FILES = {
    "errors": {
        "NoRow": ["at"], "NoMoves": [], "NoChoice": ["at"], "NoPlayers": [],
        "NoLevel": ["level"], "NoSeat": ["seat"], "NoText": ["row"], "NoLetter": ["at"],
        "NoStand": [], "NoMachine": ["at"], "NoWorths": [], "NoName": ["name"],
        "NoDeed": ["at"], "TooLong": ["most"],
    },
    "rows": {
        "is_move": ["thing"], "need_rows": ["rows"], "looks_down": ["rows", "at"],
        "hangs_on": ["rows", "some"], "showns": ["rows", "some"],
    },
    "players": {"Player": ["moves", "rows", "chosen"], "plain": ["moves", "move"]},
    "meetings": {"Meeting": ["players"], "shows_last": ["players", "paper", "moves"]},
    "playertexts": {"player_text": ["player"], "read_player": ["text"]},
    "facing": {"Faced": ["player", "letters", "tail"], "opponent": ["moves", "letters", "tail"]},
    "endings": {
        "begin": ["player"], "move_by": ["player", "stand"], "led": ["player", "stand", "letter"],
        "endings": ["player", "others"], "brought": ["player", "others", "mine", "yours"],
        "shows_never": ["player", "others", "mine", "yours", "stands"],
    },
    "alikes": {
        "alike": ["one", "other", "others"], "shows_alike": ["one", "other", "others", "pairs"],
        "parter": ["one", "other", "others"],
    },
    "machines": {"Machine": ["letters", "rows"], "machine_of": ["player", "others"]},
    "writing": {"player_of": ["machine", "moves"], "smallest": ["player", "others"]},
    "worths": {
        "Table": ["mine", "yours", "worths"], "floor": ["table"], "best": ["table", "player"], "standing": ["table"],
        "stood": ["table", "a", "b"], "shows_stood": ["table", "a", "b", "answer"],
    },
    "house": {"House": []},
    "judging": {"judged": ["record"]},
    "desk": {"Desk": []},
}
METHODS = {
    "Player": {"moves": [], "rows": [], "chosen": [], "showns": [], "top": [], "__eq__": ["other"]},
    "Meeting": {"moves_at": ["level"], "holds": ["seat", "row", "level"], "stays": [], "last": [], "paper": []},
    "Faced": {"move_at": ["level"], "stays": [], "last": []},
    "Table": {"mine": [], "yours": [], "worth": ["a", "b"], "turned": [], "__eq__": ["other"]},
    "House": {"do": ["deed"], "back": [], "all_done": ["deeds"], "names": [], "player": ["name"], "ask": ["question"],
              "made": [], "log": [], "twin": []},
    "Desk": {"say": ["row"]},
    "Machine": {"letters": [], "rows": [], "does": ["word"], "least": [], "__eq__": ["other"]},
}


def text_of(file):
    with open(os.path.join(PACKAGE, file + ".py"), encoding="ascii") as opened:
        return opened.read()


def names_of(asked):
    return [name for name in inspect.signature(asked).parameters if name != "self"]


class Interface(unittest.TestCase):

    def test_files(self):
        files = [name for name in os.listdir(PACKAGE) if name != "__pycache__"]
        self.assertEqual(sorted(files), sorted([f"{file}.py" for file in ["__init__", *FILES]]))

    def test_init_binds_nothing(self):
        self.assertEqual(ast.parse(text_of("__init__")).body, [])

    def test_names_and_arguments(self):
        for file, told in FILES.items():
            module = importlib.import_module(f"lookthrough.{file}")
            for name, arguments in told.items():
                with self.subTest(file=file, name=name):
                    self.assertEqual(getattr(module, name).__module__, f"lookthrough.{file}")
                    if not (inspect.isclass(getattr(module, name)) and not arguments):
                        self.assertEqual(names_of(getattr(module, name)), arguments)

    def test_methods(self):
        for file, told in FILES.items():
            module = importlib.import_module(f"lookthrough.{file}")
            for name in told:
                for method, arguments in METHODS.get(name, {}).items():
                    with self.subTest(name=name, method=method):
                        self.assertIn(method, vars(getattr(module, name)))
                        self.assertEqual(names_of(vars(getattr(module, name))[method]), arguments)

    def test_a_file_uses_those_ahead_alone(self):
        ahead = []
        for file in FILES:
            for node in ast.walk(ast.parse(text_of(file))):
                if isinstance(node, (ast.Import, ast.ImportFrom)):
                    with self.subTest(file=file, line=node.lineno):
                        self.assertIsInstance(node, ast.ImportFrom)
                        self.assertIn(node.module, ahead)
            ahead.append(f"lookthrough.{file}")


class Sizes(unittest.TestCase):
    """What LANGUAGE.md says of sizes and signs (L10, L14, L27)."""

    def test_lines_and_signs(self):
        for file in FILES:
            text = text_of(file)
            self.assertLess(len(text.split("\n")), 400, file)
            for at, line in enumerate(text.split("\n"), start=1):
                with self.subTest(file=file, line=at):
                    self.assertLessEqual(len(line), 120)
                    self.assertTrue(all(" " <= sign <= "~" for sign in line))

    def test_defs(self):
        for file in FILES:
            for node in ast.walk(ast.parse(text_of(file))):
                if isinstance(node, ast.FunctionDef):
                    with self.subTest(file=file, name=node.name):
                        self.assertLessEqual(node.end_lineno - node.lineno + 1, 40)


if __name__ == "__main__":
    unittest.main()
