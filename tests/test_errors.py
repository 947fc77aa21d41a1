import unittest

from ullage import errors

NAMES = [
    "BadShape", "NoNode", "NoPage", "NotRooms", "NotATree", "BadRoom", "Unlike", "BadScale",
    "BadStore", "BadName", "BadLength", "Twice", "Full", "NoThing", "NoDeed", "NoLine",
]


class Refusals(unittest.TestCase):
    """Point 4."""

    def test_room_error_is_right_under_value_error(self):
        self.assertEqual(errors.RoomError.__bases__, (ValueError,))

    def test_each_class_is_right_under_room_error_and_no_other(self):
        for name in NAMES:
            with self.subTest(name=name):
                refusal = getattr(errors, name)
                self.assertEqual(refusal.__bases__, (errors.RoomError,))
                self.assertEqual(refusal.__name__, name)
                self.assertTrue(issubclass(refusal, ValueError))

    def test_no_class_stands_under_another_one(self):
        for one in NAMES:
            for other in NAMES:
                if one != other:
                    self.assertFalse(issubclass(getattr(errors, one), getattr(errors, other)), (one, other))

    def test_each_is_made_with_one_text_and_taken_as_room_error(self):
        for name in ["RoomError"] + [name for name in NAMES if name != "NotRooms"]:
            for text in ("", "some words", "~"):
                with self.subTest(name=name, text=text):
                    with self.assertRaises(errors.RoomError) as caught:
                        raise getattr(errors, name)(text)
                    self.assertEqual(str(caught.exception), text)

    def test_not_rooms_tells_its_at(self):
        for at in (0, 1, 199, 200, 10 ** 59):
            with self.subTest(at=at):
                with self.assertRaises(errors.RoomError) as caught:
                    raise errors.NotRooms(at)
                self.assertEqual(caught.exception.at, at)
                self.assertIs(type(caught.exception.at), int)

    def test_each_not_rooms_keeps_its_own_at(self):
        one = errors.NotRooms(1)
        other = errors.NotRooms(2)
        self.assertEqual((one.at, other.at), (1, 2))


if __name__ == "__main__":
    unittest.main()
