import ast
import inspect
import os
import unittest

import sumrests
from sumrests import sets

FOLDER = os.path.dirname(sumrests.__file__)


def package_files():
    return sorted(name for name in os.listdir(FOLDER) if name != "__pycache__")


def text_of(name):
    with open(os.path.join(FOLDER, name), encoding="ascii") as file:
        return file.read()


class Package(unittest.TestCase):
    def test_arguments_as_they_stand(self):
        wanted = {
            "rests": ["numbers", "n"],
            "sums": ["one", "other", "n"],
            "shifted": ["numbers", "by", "n"],
            "stays": ["numbers", "n"],
            "step": ["numbers", "n"],
        }
        for name, arguments in wanted.items():
            self.assertEqual(list(inspect.signature(getattr(sets, name)).parameters), arguments)

    def test_only_its_own_modules_are_drawn_in(self):
        # Without another module and without open there is no clock, chance or file.
        for name in package_files():
            for node in ast.walk(ast.parse(text_of(name))):
                self.assertNotIsInstance(node, ast.Import, name)
                if isinstance(node, ast.ImportFrom):
                    self.assertEqual((node.module.split(".")[0], node.level), ("sumrests", 0), name)
                if isinstance(node, ast.Name):
                    self.assertNotIn(node.id, ("open", "hash", "id", "eval", "exec", "input"), name)

    def test_plain_files_of_plain_rows(self):
        for name in package_files():
            self.assertTrue(name.endswith(".py"), name)
            rows = text_of(name).split("\n")
            self.assertLessEqual(len(rows), 400, name)
            for row in rows:
                self.assertLessEqual(len(row), 120, name)
                self.assertTrue(all(" " <= sign <= "~" for sign in row), name)


if __name__ == "__main__":
    unittest.main()
