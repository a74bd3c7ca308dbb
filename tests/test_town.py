"""Points 1 and 2, and the interface's town.py."""

import unittest

from onewaytown.errors import BadCount, BadPlace, BadStreet, TooMany
from onewaytown.town import Town
from tests.samples import NO_NUMBERS, full, made, mixed_towns, stand


class Refusals(unittest.TestCase):
    def refused(self, wanted, deed, *things):
        """The deed is refused with just the wanted class."""
        with self.assertRaises(wanted) as caught:
            deed(*things)
        self.assertIs(type(caught.exception), wanted)


class Counts(Refusals):
    def test_1_to_16_places(self):
        for many in range(1, 17):
            self.assertEqual(Town(many).places(), many)
            self.assertIs(type(Town(many).places()), int)

    def test_too_few_and_too_many_places(self):
        for many in (0, -1, -16, 17, 18, 60, 10 ** 30, -10 ** 30):
            with self.subTest(many):
                self.refused(BadCount, Town, many)

    def test_no_numbers(self):
        for many in NO_NUMBERS:
            self.refused(BadCount, Town, many)

    def test_a_new_town_has_no_streets(self):
        self.assertEqual(Town(16).streets(), [])

    def test_towns_are_apart(self):
        one, other = Town(3), Town(3)
        self.assertEqual(one.build(0, 1), 0)
        self.assertEqual(other.streets(), [])
        self.assertEqual(other.build(1, 2), 0)
        self.assertEqual(one.streets(), [(0, 0, 1)])


class Building(Refusals):
    def test_numbers_from_0_on(self):
        town = Town(4)
        self.assertEqual([town.build(0, 1), town.build(3, 2), town.build(1, 3)], [0, 1, 2])
        self.assertEqual(town.streets(), [(0, 0, 1), (1, 3, 2), (2, 1, 3)])
        self.assertEqual(town.places(), 4)

    def test_several_streets_join_the_same_two(self):
        town = made(2, (0, 1), (1, 0), (0, 1))
        self.assertEqual(town.streets(), [(0, 0, 1), (1, 1, 0), (2, 0, 1)])

    def test_the_least_and_the_greatest_place(self):
        town = made(16, (0, 15), (15, 0))
        self.assertEqual(town.streets(), [(0, 0, 15), (1, 15, 0)])

    def test_places_that_are_not_there(self):
        town = made(3, (0, 1))
        before = stand(town)
        for wrong in (-1, -3, 3, 4, 16, 10 ** 30, -10 ** 30):
            with self.subTest(wrong):
                self.refused(BadPlace, town.build, wrong, 1)
                self.refused(BadPlace, town.build, 1, wrong)
                self.refused(BadPlace, town.build, wrong, wrong)
        self.assertEqual(stand(town), before)
        self.assertEqual(town.build(1, 2), 1)

    def test_places_of_any_kind(self):
        town = made(3, (0, 1))
        before = stand(town)
        for wrong in NO_NUMBERS:
            self.refused(BadPlace, town.build, wrong, 2)
            self.refused(BadPlace, town.build, 2, wrong)
            self.refused(BadPlace, town.build, wrong, wrong)
            self.refused(BadPlace, town.build, wrong, 3)
        self.assertEqual(stand(town), before)
        self.assertEqual(town.build(2, 0), 1)

    def test_one_place_twice(self):
        for many in (1, 2, 16):
            town = Town(many)
            for place in range(many):
                self.refused(BadPlace, town.build, place, place)
            self.assertEqual(town.streets(), [])
        self.assertEqual(town.build(0, 1), 0)

    def test_a_town_of_one_place_takes_no_street(self):
        town = Town(1)
        for one, other in ((0, 0), (0, 1), (1, 0)):
            self.refused(BadPlace, town.build, one, other)
        self.assertEqual(stand(town), (1, []))

    def test_the_sixtieth_and_the_sixty_first_street(self):
        town = Town(2)
        self.assertEqual([town.build(0, 1) for _ in range(60)], list(range(60)))
        before = stand(town)
        self.refused(TooMany, town.build, 0, 1)
        self.refused(TooMany, town.build, 1, 0)
        self.assertEqual(stand(town), before)
        self.assertEqual(len(town.streets()), 60)

    def test_bad_place_comes_before_too_many(self):
        town = full()
        before = stand(town)
        for wrong in [-1, 16, *NO_NUMBERS]:
            self.refused(BadPlace, town.build, wrong, 0)
            self.refused(BadPlace, town.build, 0, wrong)
        self.refused(BadPlace, town.build, 5, 5)
        self.refused(TooMany, town.build, 5, 6)
        self.assertEqual(stand(town), before)

    def test_at_a_time_means_those_that_are_there(self):
        town = full()
        self.refused(TooMany, town.build, 0, 1)
        town.dig(59)
        self.assertEqual(town.build(0, 1), 60)
        self.refused(TooMany, town.build, 0, 1)
        for street in range(59):
            town.dig(street)
            self.assertEqual(town.build(3, 2), 61 + street)
            self.refused(TooMany, town.build, 3, 2)
        self.assertEqual([row[0] for row in town.streets()], list(range(60, 120)))


class Digging(Refusals):
    def test_it_tells_nothing(self):
        self.assertIsNone(made(2, (0, 1)).dig(0))

    def test_the_others_stay_as_they_were(self):
        town = made(4, (0, 1), (2, 1), (3, 0), (3, 2))
        town.dig(1)
        self.assertEqual(town.streets(), [(0, 0, 1), (2, 3, 0), (3, 3, 2)])
        town.dig(3)
        self.assertEqual(town.streets(), [(0, 0, 1), (2, 3, 0)])
        town.dig(0)
        self.assertEqual(town.streets(), [(2, 3, 0)])

    def test_one_of_several_between_the_same_two(self):
        town = made(2, (0, 1), (0, 1), (1, 0))
        town.dig(1)
        self.assertEqual(town.streets(), [(0, 0, 1), (2, 1, 0)])

    def test_no_number_comes_again(self):
        town = made(3, (0, 1), (1, 2))
        town.dig(1)
        self.assertEqual(town.build(1, 2), 2)
        town.dig(0)
        self.assertEqual(town.build(0, 1), 3)
        town.dig(2)
        town.dig(3)
        self.assertEqual(town.streets(), [])
        self.assertEqual(town.build(2, 0), 4)
        self.assertEqual(town.streets(), [(4, 2, 0)])

    def test_a_street_that_is_built_again_stands_last(self):
        town = made(3, (2, 1), (0, 1), (1, 2))
        town.dig(0)
        town.build(2, 1)
        self.assertEqual(town.streets(), [(1, 0, 1), (2, 1, 2), (3, 2, 1)])

    def test_refused_streets_take_no_number(self):
        town = made(2, (0, 1))
        self.refused(BadPlace, town.build, 0, 0)
        self.refused(BadPlace, town.build, 0, 2)
        self.refused(BadStreet, town.dig, 1)
        self.assertEqual(town.build(1, 0), 1)
        town = full()
        self.refused(TooMany, town.build, 0, 1)
        town.dig(0)
        self.assertEqual(town.build(0, 1), 60)

    def test_a_second_time(self):
        town = made(3, (0, 1), (1, 2), (2, 0))
        town.dig(1)
        before = stand(town)
        self.refused(BadStreet, town.dig, 1)
        self.refused(BadStreet, town.dig, 1)
        self.assertEqual(stand(town), before)
        self.assertEqual(town.build(1, 2), 3)
        self.refused(BadStreet, town.dig, 1)

    def test_streets_that_are_not_there(self):
        town = made(3, (0, 1), (1, 2))
        before = stand(town)
        for wrong in (-1, -2, 2, 3, 60, 10 ** 30, -10 ** 30):
            with self.subTest(wrong):
                self.refused(BadStreet, town.dig, wrong)
        self.refused(BadStreet, Town(2).dig, 0)
        self.assertEqual(stand(town), before)

    def test_streets_of_any_kind(self):
        town = made(3, (0, 1), (1, 2), (2, 0))
        before = stand(town)
        for wrong in NO_NUMBERS:
            self.refused(BadStreet, town.dig, wrong)
        self.assertEqual(stand(town), before)
        self.assertEqual(town.build(0, 1), 3)


class Telling(unittest.TestCase):
    def test_streets_rise_and_are_tuples_of_ints(self):
        for town in mixed_towns():
            rows = town.streets()
            self.assertIs(type(rows), list)
            numbers = [row[0] for row in rows]
            self.assertEqual(numbers, sorted(set(numbers)))
            for row in rows:
                self.assertIs(type(row), tuple)
                self.assertEqual([type(part) for part in row], [int, int, int])

    def test_the_told_list_is_the_askers_own(self):
        town = made(3, (0, 1), (1, 2))
        told = town.streets()
        told.append((2, 0, 2))
        told[0] = (7, 2, 2)
        self.assertEqual(town.streets(), [(0, 0, 1), (1, 1, 2)])
        held = town.streets()
        town.dig(0)
        town.build(2, 0)
        self.assertEqual(held, [(0, 0, 1), (1, 1, 2)])
        self.assertEqual(town.streets(), [(1, 1, 2), (2, 2, 0)])
        self.assertIsNot(town.streets(), town.streets())
        empty = Town(2)
        empty.streets().append((0, 0, 1))
        self.assertEqual(empty.streets(), [])


if __name__ == "__main__":
    unittest.main()
