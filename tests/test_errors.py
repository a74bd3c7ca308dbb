"""The interface's errors.py."""

import unittest

from onewaytown import errors
from onewaytown.errors import Parted, TownError

SEVEN = ["BadCount", "BadPlace", "BadStreet", "TooMany", "Parted", "BadWays", "BadText"]


class Classes(unittest.TestCase):
    def test_town_error_is_straight_under_value_error(self):
        self.assertEqual(TownError.__bases__, (ValueError,))

    def test_each_of_the_seven_is_straight_under_town_error(self):
        for name in SEVEN:
            with self.subTest(name):
                self.assertEqual(getattr(errors, name).__bases__, (TownError,))

    def test_there_are_no_others(self):
        told = [name for name, thing in vars(errors).items() if isinstance(thing, type)]
        self.assertEqual(sorted(told), sorted(["TownError", *SEVEN]))

    def test_each_is_raised_and_caught_as_town_error(self):
        for name in SEVEN:
            fields = ([], []) if name == "Parted" else ("a text",)
            with self.subTest(name), self.assertRaises(TownError):
                raise getattr(errors, name)(*fields)


class PartedFields(unittest.TestCase):
    def test_fields_in_their_order(self):
        why = Parted([1, 3], [[0, 2], [1]])
        self.assertEqual(why.between, [1, 3])
        self.assertEqual(why.apart, [[0, 2], [1]])

    def test_fields_by_name(self):
        why = Parted(apart=[[0]], between=[])
        self.assertEqual(why.between, [])
        self.assertEqual(why.apart, [[0]])

    def test_it_is_made_of_both(self):
        for fields in ((), ([1],), ([1], [[0]], [])):
            with self.subTest(fields), self.assertRaises(TypeError):
                Parted(*fields)

    def test_it_has_a_text(self):
        self.assertIsInstance(str(Parted([1], [[0]])), str)

    def test_what_is_handed_in_is_neither_kept_nor_changed(self):
        between, apart = [1], [[0], [1]]
        why = Parted(between, apart)
        why.between.append(2)
        why.apart.append([5])
        why.apart[0].append(6)
        self.assertEqual((between, apart), ([1], [[0], [1]]))
        between.clear()
        apart[1].clear()
        apart.clear()
        self.assertEqual((why.between, why.apart), ([1, 2], [[0, 6], [1], [5]]))
        for kept in why.args:
            self.assertIsInstance(kept, str)


if __name__ == "__main__":
    unittest.main()
