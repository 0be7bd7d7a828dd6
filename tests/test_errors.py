"""Promise [5]."""

import copy
import pickle
import unittest

from treeturns import errors

FIELDS = {
    "InvalidTree": "value", "InvalidAddress": "value", "InvalidNumber": "value", "InvalidList": "value",
    "InvalidScript": "value", "InvalidMove": "value", "CannotTurn": "place", "CannotMove": "value",
    "NotCarried": "address", "InvalidName": "name", "TakenName": "name", "UnknownName": "name",
}


class Classes(unittest.TestCase):

    def test_turn_error_is_a_value_error(self):
        self.assertEqual(errors.TurnError.__bases__, (ValueError,))

    def test_all_others_are_derived_directly_from_it(self):
        for name in list(FIELDS) + ["NothingToUndo"]:
            with self.subTest(name):
                self.assertEqual(getattr(errors, name).__bases__, (errors.TurnError,))
                self.assertEqual(getattr(errors, name).__module__, "treeturns.errors")

    def test_nothing_to_undo_takes_no_arguments(self):
        self.assertIsInstance(errors.NothingToUndo(), errors.TurnError)
        with self.assertRaises(errors.NothingToUndo):
            raise errors.NothingToUndo()


class Fields(unittest.TestCase):

    def test_by_position_by_name_and_left_out(self):
        deep = []
        for _ in range(100000):
            deep = [deep]
        values = [None, True, 0, -5, "", "(..)", [], [1, [2]], (1, 2), {"a": [1]}, deep]
        for name, field in FIELDS.items():
            made = getattr(errors, name)
            with self.subTest(name):
                self.assertIsNone(getattr(made(), field))
                for value in values:
                    self.assertIs(getattr(made(value), field), value)
                    self.assertIs(getattr(made(**{field: value}), field), value)

    def test_no_other_field(self):
        for name, field in FIELDS.items():
            with self.subTest(name):
                self.assertEqual(vars(getattr(errors, name)(3)), {field: 3})
                with self.assertRaises(TypeError):
                    getattr(errors, name)(**{"other": 3})

    def test_raised_and_caught(self):
        for name, field in FIELDS.items():
            with self.subTest(name):
                value = [name]
                with self.assertRaises(errors.TurnError) as caught:
                    raise getattr(errors, name)(value)
                self.assertIs(getattr(caught.exception, field), value)

    def test_copies_keep_the_field(self):
        for name, field in FIELDS.items():
            with self.subTest(name):
                error = getattr(errors, name)(["a"])
                self.assertEqual(getattr(copy.copy(error), field), ["a"])
                self.assertEqual(getattr(pickle.loads(pickle.dumps(error)), field), ["a"])


if __name__ == "__main__":
    unittest.main()
