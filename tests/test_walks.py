"""Points 1 and 3, and the interface's walks.py."""

import unittest

from onewaytown.errors import BadPlace
from onewaytown.town import Town
from onewaytown.walks import parts, reached
from tests.samples import NO_NUMBERS, all_towns, full, made, path, plain_parts, ring, stand


class Reached(unittest.TestCase):
    def test_a_place_is_come_to_from_itself(self):
        self.assertEqual(reached(Town(1), 0), [0])
        self.assertEqual([reached(Town(16), at) for at in range(16)], [[at] for at in range(16)])

    def test_streets_are_walked_either_way(self):
        for ends in ((0, 2), (2, 0)):
            town = made(3, ends)
            self.assertEqual([reached(town, at) for at in range(3)], [[0, 2], [1], [0, 2]])

    def test_along_several_streets(self):
        for town in (path(16), ring(16), full()):
            for place in (0, 7, 15):
                self.assertEqual(reached(town, place), list(range(16)))
        upward = made(5, (4, 2), (2, 3), (3, 0))
        self.assertEqual(reached(upward, 4), [0, 2, 3, 4])
        self.assertEqual(reached(upward, 0), [0, 2, 3, 4])
        self.assertEqual(reached(upward, 1), [1])

    def test_it_follows_what_is_built_and_dug_up(self):
        town = path(4)
        town.dig(1)
        self.assertEqual(reached(town, 0), [0, 1])
        self.assertEqual(reached(town, 3), [2, 3])
        town.build(3, 0)
        self.assertEqual(reached(town, 2), [0, 1, 2, 3])

    def test_places_that_are_not_there(self):
        for town in (Town(1), made(3, (0, 1)), full()):
            before = stand(town)
            for wrong in [-1, -town.places(), town.places(), 16, 10 ** 30, -10 ** 30, *NO_NUMBERS]:
                with self.assertRaises(BadPlace) as caught:
                    reached(town, wrong)
                self.assertIs(type(caught.exception), BadPlace)
            self.assertEqual(stand(town), before)

    def test_all_towns(self):
        for town in all_towns():
            rows = town.streets()
            for part in plain_parts(town.places(), rows):
                for place in part:
                    self.assertEqual(reached(town, place), part)
                    self.assertEqual(reached(town, place), part)
            self.assertEqual(town.streets(), rows)


class Parts(unittest.TestCase):
    def test_one_place_alone(self):
        self.assertEqual(parts(Town(1)), [[0]])

    def test_no_streets(self):
        self.assertEqual(parts(Town(16)), [[at] for at in range(16)])

    def test_one_part(self):
        for town in (path(16), ring(16), full()):
            self.assertEqual(parts(town), [list(range(16))])

    def test_they_rise_and_are_told_by_their_least_places(self):
        town = made(7, (6, 1), (5, 2), (4, 0), (2, 6))
        self.assertEqual(parts(town), [[0, 4], [1, 2, 5, 6], [3]])

    def test_they_follow_what_is_built_and_dug_up(self):
        town = made(4, (0, 1), (0, 1), (2, 3))
        self.assertEqual(parts(town), [[0, 1], [2, 3]])
        town.dig(0)
        self.assertEqual(parts(town), [[0, 1], [2, 3]])
        town.dig(1)
        self.assertEqual(parts(town), [[0], [1], [2, 3]])
        town.build(3, 0)
        self.assertEqual(parts(town), [[0, 2, 3], [1]])

    def test_all_towns(self):
        for town in all_towns():
            rows = town.streets()
            wanted = plain_parts(town.places(), rows)
            self.assertEqual(parts(town), wanted)
            self.assertEqual(parts(town), wanted)
            self.assertEqual(town.streets(), rows)


class Telling(unittest.TestCase):
    def test_reached_is_the_askers_own(self):
        town = path(3)
        told = reached(town, 0)
        self.assertIs(type(told), list)
        told.clear()
        self.assertEqual(reached(town, 0), [0, 1, 2])
        self.assertEqual(parts(town), [[0, 1, 2]])

    def test_parts_are_the_askers_own_within_too(self):
        town = made(4, (0, 1))
        told = parts(town)
        self.assertEqual([type(part) for part in [told, *told]], [list] * 4)
        told[0].append(2)
        told[1].clear()
        self.assertEqual(told, [[0, 1, 2], [], [3]])
        told.pop()
        self.assertEqual(parts(town), [[0, 1], [2], [3]])


if __name__ == "__main__":
    unittest.main()
