"""The classes of errors.py and their order (point 4)."""

import ast
import inspect
import unittest

from settledcases import errors

ORDER = [
    "CourtError", "NoForum", "BadText", "NotYesNo", "OtherForum", "NoCase", "NoGrade", "NoRow", "NoPrice",
    "NoRule", "NoCourt", "NoJudge", "TooLarge", "Unkept", "AtOdds", "NoKeeper", "NoPanel", "Bound", "Closed",
    "Finished", "NoRung", "NothingToUndo", "NothingToRedo", "NoCommand",
]


class ErrorsTest(unittest.TestCase):
    def test_all_classes_in_order(self):
        tree = ast.parse(inspect.getsource(errors))
        self.assertEqual([node.name for node in tree.body if isinstance(node, ast.ClassDef)], ORDER)

    def test_direct_bases(self):
        for name in ORDER:
            base = getattr(errors, name).__bases__
            if name == "CourtError":
                self.assertEqual(base, (ValueError,))
            elif name in ("AtOdds", "NoKeeper", "NoPanel"):
                self.assertEqual(base, (errors.Unkept,))
            else:
                self.assertEqual(base, (errors.CourtError,))

    def test_fields(self):
        self.assertEqual(errors.BadText(7).line, 7)
        self.assertEqual(errors.BadText(line=7).line, 7)
        odds = errors.AtOdds(2, 5)
        self.assertEqual((odds.low, odds.high), (2, 5))
        self.assertEqual(errors.NoKeeper("single").kind, "single")
        self.assertEqual(errors.Bound(3).row, 3)
        self.assertEqual(errors.Closed(4).court, 4)

    def test_every_class_can_be_raised(self):
        made = [errors.BadText(1), errors.AtOdds(0, 1), errors.NoKeeper("single"), errors.Bound(0), errors.Closed(0)]
        names = [error.__class__.__name__ for error in made]
        made += [getattr(errors, name)("why") for name in ORDER if name not in names]
        for error in made:
            with self.assertRaises(errors.CourtError) as caught:
                raise error
            self.assertNotEqual(str(caught.exception), "")
