"""That the interface stands where it is listed, and that nothing outside is used (point 1)."""

import ast
import inspect
import pathlib
import unittest

import twoheaps
from twoheaps import answers, errors, pairs, takings, telling

FOLDER = pathlib.Path(twoheaps.__file__).parent


class Interface(unittest.TestCase):
    def takes(self, home, name, *names):
        """It is defined in this very file, under this name, with these arguments."""
        found = vars(home)[name]
        self.assertEqual(found.__module__, home.__name__)
        self.assertEqual(tuple(inspect.signature(found).parameters), names)

    def test_functions(self):
        self.takes(takings, "can", "bound", "heaps", "taking")
        self.takes(takings, "left", "bound", "heaps", "taking")
        self.takes(pairs, "pair_by", "bound", "number")
        self.takes(pairs, "pair_with", "bound", "number")
        self.takes(telling, "told", "bound", "heaps")

    def test_classes(self):
        for name in ("HeapError", "BadBound", "BadHeaps", "BadTaking", "BadNumber"):
            self.assertEqual(vars(errors)[name].__module__, errors.__name__)
        self.assertEqual(answers.Answer.__module__, answers.__name__)
        self.takes(answers, "Lost", "number")
        self.takes(answers, "Won", "taking")
        for kind in (answers.Lost, answers.Won):
            shows = vars(kind)["shows"]
            self.assertEqual(
                tuple(inspect.signature(shows).parameters), ("self", "bound", "heaps")
            )

    def test_by_keyword(self):
        self.assertIs(takings.can(taking=(1, 1), heaps=(1, 2), bound=1), True)
        self.assertEqual(takings.left(taking=(1, 1), heaps=(1, 2), bound=1), (0, 1))
        self.assertEqual(pairs.pair_by(number=2, bound=1), (3, 5))
        self.assertEqual(pairs.pair_with(number=5, bound=1), 2)
        answer = telling.told(heaps=(3, 5), bound=1)
        self.assertIs(answer.shows(heaps=(3, 5), bound=1), True)

    def test_no_clock_chance_or_file(self):
        for path in FOLDER.rglob("*.py"):
            for node in ast.walk(ast.parse(path.read_text(encoding="utf-8"))):
                self.assertNotIsInstance(node, ast.Import)
                if isinstance(node, ast.ImportFrom) and node.module != "math":
                    self.assertTrue(node.module.startswith("twoheaps."), node.module)


if __name__ == "__main__":
    unittest.main()
