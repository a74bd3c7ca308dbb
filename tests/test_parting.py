"""Points 1, 4 and 5, and the interface's parting.py."""

import unittest

from onewaytown.parting import ends, parting, pieces
from onewaytown.town import Town
from tests.samples import (
    MIXED, all_towns, full, made, path, plain_ends, plain_parting, plain_pieces, ring,
)


class Parting(unittest.TestCase):
    def test_no_streets(self):
        self.assertEqual(parting(Town(1)), [])
        self.assertEqual(parting(Town(16)), [])

    def test_all_streets_of_a_tree_part_it(self):
        self.assertEqual(parting(path(16)), list(range(15)))
        self.assertEqual(parting(made(5, (4, 0), (2, 0), (0, 3), (1, 0))), [0, 1, 2, 3])

    def test_no_street_of_a_ring_parts_it(self):
        for many in (2, 3, 16):
            self.assertEqual(parting(ring(many)), [])

    def test_streets_that_join_the_same_two_do_not_part(self):
        town = made(3, (0, 1), (1, 0), (1, 2))
        self.assertEqual(parting(town), [2])
        town.dig(0)
        self.assertEqual(parting(town), [1, 2])

    def test_in_a_town_of_several_parts(self):
        self.assertEqual(parting(made(5, (0, 1), (2, 3))), [0, 1])
        self.assertEqual(parting(made(6, (0, 1), (1, 2), (2, 0), (4, 5))), [3])

    def test_rings_joined(self):
        self.assertEqual(parting(made(*MIXED)), [3, 7])

    def test_numbers_not_places_in_the_row(self):
        town = made(*MIXED)
        town.dig(0)
        town.build(7, 6)
        self.assertEqual(parting(town), [1, 2, 3, 7, 8])

    def test_a_full_town(self):
        self.assertEqual(parting(full()), [])

    def test_all_towns(self):
        for town in all_towns():
            rows = town.streets()
            wanted = plain_parting(town.places(), rows)
            self.assertEqual(parting(town), wanted)
            self.assertEqual(parting(town), wanted)
            self.assertEqual(town.streets(), rows)


class Pieces(unittest.TestCase):
    def test_one_place_alone(self):
        self.assertEqual(pieces(Town(1)), [[0]])

    def test_each_place_of_a_tree_is_a_piece(self):
        self.assertEqual(pieces(path(16)), [[at] for at in range(16)])
        self.assertEqual(pieces(Town(3)), [[0], [1], [2]])

    def test_a_ring_is_one_piece(self):
        for many in (2, 3, 16):
            self.assertEqual(pieces(ring(many)), [list(range(many))])

    def test_rings_joined(self):
        self.assertEqual(pieces(made(*MIXED)), [[0, 1, 2], [3, 4, 5], [6], [7]])

    def test_all_such_streets_are_dug_up_at_once(self):
        town = made(7, (6, 0), (0, 6), (6, 5), (5, 1), (1, 4), (4, 1), (2, 3))
        self.assertEqual(pieces(town), [[0, 6], [1, 4], [2], [3], [5]])

    def test_they_are_not_dug_up_in_the_town(self):
        town = made(*MIXED)
        rows = town.streets()
        pieces(town)
        self.assertEqual(town.streets(), rows)
        self.assertEqual(town.build(0, 7), 8)

    def test_all_towns(self):
        for town in all_towns():
            rows = town.streets()
            wanted = plain_pieces(town.places(), rows)
            self.assertEqual(pieces(town), wanted)
            self.assertEqual(pieces(town), wanted)
            self.assertEqual(town.streets(), rows)


class Ends(unittest.TestCase):
    def test_one_piece_wants_nothing(self):
        for town in (Town(1), ring(2), ring(16), full()):
            self.assertEqual(ends(town), [])

    def test_none_that_parts_leads_out(self):
        self.assertEqual(ends(Town(2)), [([0], 2), ([1], 2)])
        self.assertEqual(ends(made(5, (1, 3), (3, 1), (0, 2), (2, 4), (4, 0))),
                         [([0, 2, 4], 2), ([1, 3], 2)])
        self.assertEqual(ends(Town(16)), [([at], 2) for at in range(16)])

    def test_just_one_leads_out(self):
        self.assertEqual(ends(path(2)), [([0], 1), ([1], 1)])
        self.assertEqual(ends(path(16)), [([0], 1), ([15], 1)])

    def test_several_lead_out(self):
        star = made(5, (2, 0), (2, 1), (3, 2), (4, 2))
        self.assertEqual(ends(star), [([0], 1), ([1], 1), ([3], 1), ([4], 1)])

    def test_two_that_lead_out_of_unlike_places(self):
        town = made(5, (0, 1), (1, 2), (2, 1), (3, 2), (4, 3), (3, 4))
        self.assertEqual(ends(town), [([0], 1), ([3, 4], 1)])

    def test_rings_joined(self):
        self.assertEqual(ends(made(*MIXED)), [([0, 1, 2], 1), ([6], 1), ([7], 2)])

    def test_they_follow_what_is_built_and_dug_up(self):
        town = path(3)
        town.build(2, 0)
        self.assertEqual(ends(town), [])
        town.dig(0)
        self.assertEqual(ends(town), [([0], 1), ([1], 1)])
        town.dig(1)
        self.assertEqual(ends(town), [([0], 1), ([1], 2), ([2], 1)])

    def test_all_towns(self):
        for town in all_towns():
            rows = town.streets()
            wanted = plain_ends(town.places(), rows)
            self.assertEqual(ends(town), wanted)
            self.assertEqual(ends(town), wanted)
            self.assertEqual(town.streets(), rows)


class Telling(unittest.TestCase):
    def test_parting_is_the_askers_own(self):
        town = path(3)
        told = parting(town)
        self.assertIs(type(told), list)
        told.clear()
        self.assertEqual(parting(town), [0, 1])
        self.assertEqual(pieces(town), [[0], [1], [2]])

    def test_pieces_are_the_askers_own_within_too(self):
        town = path(3)
        told = pieces(town)
        self.assertEqual([type(piece) for piece in [told, *told]], [list] * 4)
        told[0].append(2)
        told[1].clear()
        self.assertEqual(told, [[0, 2], [], [2]])
        told.pop()
        self.assertEqual(pieces(town), [[0], [1], [2]])
        self.assertEqual(ends(town), [([0], 1), ([2], 1)])

    def test_ends_are_the_askers_own_within_too(self):
        town = made(3, (0, 1))
        told = ends(town)
        self.assertEqual([type(row) for row in [told, *told]], [list] + [tuple] * 3)
        self.assertEqual([type(piece) for piece, _ in told], [list] * 3)
        told[0][0].append(2)
        told[1][0].clear()
        told.pop()
        self.assertEqual(told, [([0, 2], 1), ([], 1)])
        self.assertEqual(ends(town), [([0], 1), ([1], 1), ([2], 2)])


if __name__ == "__main__":
    unittest.main()
