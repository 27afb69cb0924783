import ast
import inspect
import os
import unittest

import sumrests
from sumrests import choices, notes, sets, stretches

FOLDER = os.path.dirname(sumrests.__file__)


def package_files():
    return sorted(name for name in os.listdir(FOLDER) if name != "__pycache__")


def text_of(name):
    with open(os.path.join(FOLDER, name), encoding="ascii") as file:
        return file.read()


class Package(unittest.TestCase):
    def test_names_and_arguments_as_they_stand(self):
        wanted = {
            sets: {
                "rests": ["numbers", "n"],
                "sums": ["one", "other", "n"],
                "shifted": ["numbers", "by", "n"],
                "stays": ["numbers", "n"],
                "step": ["numbers", "n"],
            },
            stretches: {"stretch": ["numbers", "n"]},
            choices: {
                "choose": ["numbers", "count", "wanted", "n"],
                "table": ["numbers", "n"],
                "barren": ["n"],
                "groups": ["numbers", "n"],
            },
            notes: {"shown": ["numbers", "n"], "read": ["text"]},
        }
        for module, functions in wanted.items():
            for name, arguments in functions.items():
                self.assertEqual(list(inspect.signature(getattr(module, name)).parameters), arguments, name)

    def test_only_its_own_modules_are_drawn_in(self):
        # Without another module and without open there is no clock, chance or file.
        for name in package_files():
            for node in ast.walk(ast.parse(text_of(name))):
                self.assertNotIsInstance(node, ast.Import, name)
                if isinstance(node, ast.ImportFrom):
                    self.assertEqual((node.module.split(".")[0], node.level), ("sumrests", 0), name)
                if isinstance(node, ast.Name):
                    self.assertNotIn(node.id, ("open", "hash", "id", "eval", "exec", "input"), name)

    def test_plain_files_of_plain_rows(self):
        for name in package_files():
            self.assertTrue(name.endswith(".py"), name)
            rows = text_of(name).split("\n")
            self.assertLessEqual(len(rows), 400, name)
            for row in rows:
                self.assertLessEqual(len(row), 120, name)
                self.assertTrue(all(" " <= sign <= "~" for sign in row), name)


if __name__ == "__main__":
    unittest.main()
