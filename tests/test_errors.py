import unittest

from bowfloor import errors

PLAIN = ("NoFloor NoHeights NoColour NoEnd NoPattern NoNumber NoTurn OtherSize NoRest NoHeld NoLanes NoPushes "
         "NoText NoLine NoUndo TooMany").split()


class ErrorsTest(unittest.TestCase):
    def test_floor_error_stands_straight_beneath_value_error(self):
        self.assertEqual((ValueError,), errors.FloorError.__bases__)

    def test_each_refusal_stands_straight_beneath_floor_error(self):
        for name in PLAIN + ["HeldApart"]:
            with self.subTest(name):
                self.assertEqual((errors.FloorError,), getattr(errors, name).__bases__)
                self.assertEqual(name, getattr(errors, name).__name__)

    def test_each_refusal_is_a_class_of_its_own(self):
        classes = {getattr(errors, name) for name in PLAIN + ["HeldApart", "FloorError"]}
        self.assertEqual(len(PLAIN) + 2, len(classes))

    def test_plain_refusals_have_no_fields(self):
        for name in PLAIN:
            with self.subTest(name):
                refusal = getattr(errors, name)
                self.assertEqual({}, vars(refusal("a word")))
                self.assertEqual({}, vars(refusal()))

    def test_held_apart_has_its_fields(self):
        error = errors.HeldApart((0, 1), (2, 3))
        self.assertEqual({"one": (0, 1), "other": (2, 3)}, vars(error))
        self.assertTrue(str(error))

    def test_refusals_are_caught_as_value_errors(self):
        with self.assertRaises(ValueError):
            raise errors.HeldApart((0, 0), (1, 1))
        with self.assertRaises(ValueError):
            raise errors.NoFloor("none")


if __name__ == "__main__":
    unittest.main()
