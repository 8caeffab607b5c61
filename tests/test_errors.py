"""[77] and the sentences of [2] on errors."""

import unittest

from loopsize import errors

FIELDS = {
    "BadText": ("line", "column"), "BadName": ("name",), "BadNumber": ("what", "number"), "BadSize": ("n",),
    "BadMany": ("many",), "BadGrade": ("grade",), "TooMany": ("what", "many", "limit"), "TooLarge": ("most",),
    "TooFar": ("what", "limit"), "TooLong": ("many",), "NoLoop": ("loop",), "NoStatement": ("loop", "statement"),
    "NoAccess": ("access",), "NoArray": ("array",), "NoWork": ("work",), "NoNumber": ("number",), "NoRead": ("read",),
    "NoLag": ("loop",), "NotKept": ("n", "work", "read"), "NotWhole": ("n", "work"), "Unlike": ("loop",),
    "Deeper": ("n", "chain"), "Deep": ("n", "counter"), "Long": ("works",), "Mixing": ("loop", "statement"),
    "AtEnd": (), "AtStart": (), "OtherProgram": (), "SameArray": ("array",), "NotSame": ("n", "counter"),
    "Taken": ("n", "counter"), "Endless": ("n",), "BadDeed": ("deed",), "TakenName": ("name",),
    "NoProgram": ("name",), "NotInOrder": ("n", "first", "second"), "NotSameFlow": ("n", "work", "read"),
}


class ErrorsTest(unittest.TestCase):
    def test_all_errors_are_there_and_no_others(self):
        found = {
            name for name, value in vars(errors).items()
            if isinstance(value, type) and issubclass(value, errors.LoopError) and value is not errors.LoopError
        }
        self.assertEqual(found, set(FIELDS))

    def test_fields(self):
        for name, fields in FIELDS.items():
            values = [("any", name, place) for place in range(len(fields))]
            error = getattr(errors, name)(*values)
            self.assertEqual([getattr(error, field) for field in fields], values, name)
            self.assertIsInstance(str(error), str)

    def test_fields_may_be_any_values(self):
        held = object()
        self.assertIs(errors.BadNumber(held, [1]).what, held)
        self.assertEqual(errors.NoLoop(-(10 ** 5000)).loop, -(10 ** 5000))

    def test_order_of_classes(self):
        self.assertTrue(issubclass(errors.LoopError, ValueError))
        classes = [getattr(errors, name) for name in FIELDS]
        for one in classes:
            self.assertTrue(issubclass(one, errors.LoopError))
            for other in classes:
                self.assertEqual(issubclass(one, other), one is other)

    def test_errors_can_be_raised_and_caught(self):
        with self.assertRaises(errors.LoopError) as caught:
            raise errors.Deeper(8, (3, 5, 7))
        self.assertEqual((caught.exception.n, caught.exception.chain), (8, (3, 5, 7)))


if __name__ == "__main__":
    unittest.main()
