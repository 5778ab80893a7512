"""0.5: the errors and whose subclasses they are."""

import ast
import pathlib
import unittest

from runroots import errors

NAMES = ["BadSystem", "BadValues", "BadText", "BadMachine", "BadRun", "TooFew", "NotSolution", "TooGreat", "BadTower"]


class Errors(unittest.TestCase):
    def test_the_base_class(self):
        self.assertTrue(issubclass(errors.RootsError, ValueError))
        self.assertEqual(errors.RootsError.__bases__, (ValueError,))

    def test_each_error_is_below_the_base_class_alone(self):
        for name in NAMES:
            self.assertEqual(getattr(errors, name).__bases__, (errors.RootsError,), name)

    def test_no_error_is_below_another_one(self):
        for name in NAMES:
            for other in NAMES:
                if name != other:
                    self.assertFalse(issubclass(getattr(errors, name), getattr(errors, other)), (name, other))

    def test_they_are_defined_in_this_file(self):
        tree = ast.parse(pathlib.Path(errors.__file__).read_text())
        defined = [node.name for node in tree.body if isinstance(node, ast.ClassDef)]
        self.assertEqual(sorted(defined), sorted(NAMES + ["RootsError"]))

    def test_line_of_a_bad_text(self):
        with self.assertRaises(errors.BadText) as caught:
            raise errors.BadText(7)
        self.assertEqual(caught.exception.line, 7)

    def test_index_of_no_solution(self):
        with self.assertRaises(errors.NotSolution) as caught:
            raise errors.NotSolution(0)
        self.assertEqual(caught.exception.index, 0)

    def test_index_of_a_bad_tower(self):
        with self.assertRaises(errors.BadTower) as caught:
            raise errors.BadTower(3)
        self.assertEqual(caught.exception.index, 3)

    def test_the_others_can_be_raised(self):
        for name in NAMES:
            if name not in ("BadText", "NotSolution", "BadTower"):
                with self.assertRaises(errors.RootsError):
                    raise getattr(errors, name)("words")


if __name__ == "__main__":
    unittest.main()
