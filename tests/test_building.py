"""Points 1, 5 and 9, and the interface's building.py."""

import unittest
from itertools import combinations, combinations_with_replacement

from onewaytown.building import fewest
from onewaytown.oneway import one_way
from onewaytown.town import Town
from tests.samples import (
    MIXED, all_towns, full, made, path, plain_made_one_way, plain_wanted, ring, small_towns,
)


def with_pairs(rows, pairs):
    """The rows with a street more for each pair."""
    return rows + [(1000 + at, *pair) for at, pair in enumerate(pairs)]


class Fewest(unittest.TestCase):
    def check(self, town, wanted=None):
        """What is told of a town is what point 9 says."""
        many, rows = town.places(), town.streets()
        told = fewest(town)
        self.assertIs(type(told), list)
        for pair in told:
            self.assertIs(type(pair), tuple)
            self.assertEqual([type(place) for place in pair], [int] * 2)
            self.assertTrue(0 <= min(pair) < max(pair) < many)
        self.assertEqual(len(told), (plain_wanted(many, rows) + 1) // 2)
        if wanted is not None:
            self.assertEqual(len(told), wanted)
        self.assertTrue(plain_made_one_way(many, with_pairs(rows, told)))
        self.assertEqual(fewest(town), told)
        self.assertEqual((town.places(), town.streets()), (many, rows))

    def test_nothing_is_wanted(self):
        for town in (Town(1), ring(2), ring(3), ring(16), full()):
            self.assertEqual(fewest(town), [])

    def test_places_without_streets(self):
        for many in range(2, 17):
            self.check(Town(many), many)

    def test_two_places(self):
        self.assertEqual([sorted(pair) for pair in fewest(path(2))], [[0, 1]])
        self.assertEqual([sorted(pair) for pair in fewest(Town(2))], [[0, 1], [0, 1]])

    def test_paths(self):
        for many in range(3, 17):
            self.assertEqual([sorted(pair) for pair in fewest(path(many))], [[0, many - 1]])

    def test_stars(self):
        for leaves in range(2, 16):
            star = made(leaves + 1, *[(leaves, at) for at in range(leaves)])
            self.check(star, (leaves + 1) // 2)
            star = made(leaves + 1, *[(at, 0) for at in range(leaves, 0, -1)])
            self.check(star, (leaves + 1) // 2)

    def test_trees_with_leaves_at_unlike_branches(self):
        self.check(made(6, (0, 1), (1, 2), (1, 3), (3, 4), (3, 5)), 2)
        self.check(made(7, (6, 0), (0, 1), (1, 2), (1, 3), (6, 4), (6, 5)), 2)
        self.check(made(15, *[((at - 1) // 2, at) for at in range(1, 15)]), 4)
        self.check(made(15, *[((at + 15) // 2, at) for at in range(14)]), 4)
        self.check(made(16, *[(at, at // 3 * 3) for at in range(16) if at % 3],
                        *[(at, at + 3) for at in range(0, 13, 3)]), 6)

    def test_pieces_that_streets_join(self):
        self.check(made(*MIXED), 2)
        rings = made(9, *[(at, at // 3 * 3 + (at + 1) % 3) for at in range(9)])
        self.check(rings, 3)
        rings.build(1, 4)
        self.check(rings, 2)
        rings.build(5, 8)
        self.check(rings, 1)

    def test_parts_of_several_kinds(self):
        self.check(made(6, (0, 1), (0, 2), (4, 5)), 3)
        self.check(made(16, (15, 0), (15, 4), (15, 8), (1, 2), (2, 3), (3, 1), (7, 5), (7, 6),
                        (7, 9), (7, 10), (7, 11), (12, 13), (13, 12)), 7)

    def test_one_is_wanted_of_each_of_two_pieces(self):
        self.check(path(2), 1)
        self.check(made(5, (0, 1), (1, 2), (2, 0), (2, 3), (3, 4), (4, 3)), 1)
        # One alone is never wanted: where a street parts, each side wants one or more.
        for town in all_towns():
            self.assertNotEqual(plain_wanted(town.places(), town.streets()), 1)

    def test_an_odd_number_is_wanted(self):
        self.check(made(4, (0, 1), (0, 2), (0, 3)), 2)
        self.check(made(5, (0, 1), (0, 2), (0, 3)), 3)
        self.check(made(6, (3, 0), (3, 1), (3, 2), (3, 4), (3, 5)), 3)

    def test_numbers_with_gaps(self):
        town = ring(16)
        for street in (2, 3, 9):
            town.dig(street)
        town.build(3, 1)
        self.check(town, 3)

    def test_more_than_a_town_may_have(self):
        self.check(made(16, *[(3, 9)] * 60), 15)
        self.check(made(16, *[(3, 9)] * 59, (1, 3)), 14)

    def test_all_towns(self):
        for town in all_towns():
            self.check(town)

    def test_once_they_are_built_the_town_has_good_ways(self):
        for town in all_towns():
            told = fewest(town)
            if len(town.streets()) + len(told) <= 60:
                for one, other in told:
                    town.build(one, other)
                self.assertEqual(len(one_way(town)), len(town.streets()))
                self.assertEqual(fewest(town), [])

    def test_no_fewer_do(self):
        for town in small_towns():
            many, rows = town.places(), town.streets()
            told = len(fewest(town))
            if told and len(rows) < 7:
                pairs = list(combinations(range(many), 2))
                for fewer in combinations_with_replacement(pairs, told - 1):
                    self.assertFalse(plain_made_one_way(many, with_pairs(rows, fewer)))

    def test_pairs_are_the_askers_own(self):
        town = made(*MIXED)
        told = fewest(town)
        kept = list(told)
        told.clear()
        self.assertEqual(fewest(town), kept)
        self.check(town, 2)


if __name__ == "__main__":
    unittest.main()
