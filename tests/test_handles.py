"""Points 1 and 6, and the interface's handles.py."""

import unittest

from onewaytown.handles import handles
from onewaytown.town import Town
from tests.samples import (
    all_towns, full, made, path, plain_parting, plain_pieces, ring, turned,
)


class Handles(unittest.TestCase):
    def check(self, town):
        """What is told of a town is what point 6 says."""
        streets = town.streets()
        between = plain_parting(town.places(), streets)
        told = handles(town)
        self.assertIs(type(told), list)
        for row in told:
            self.assertIs(type(row), list)
            self.assertTrue(row)
            self.check_steps(row, streets)
        self.assertEqual(sorted(step[0] for row in told for step in row),
                         [row[0] for row in streets if row[0] not in between])
        left = list(told)
        for piece in plain_pieces(town.places(), streets):
            rows = [row for row in told if row[0][1] in piece]
            self.assertEqual(left[:len(rows)], rows)
            left = left[len(rows):]
            self.check_piece(piece, rows)
        self.assertEqual(left, [])
        self.assertEqual(town.streets(), streets)

    def check_steps(self, row, streets):
        for step in row:
            self.assertIs(type(step), tuple)
            self.assertEqual([type(number) for number in step], [int] * 3)
            self.assertTrue(step in streets or turned(step) in streets)
        for ahead, step in zip(row, row[1:]):
            self.assertEqual(ahead[2], step[1])

    def check_piece(self, piece, rows):
        if len(piece) == 1:
            self.assertEqual(rows, [])
            return
        had = [piece[0]]
        for at, row in enumerate(rows):
            through = [step[2] for step in row[:-1]]
            self.assertEqual(len(through), len(set(through)))
            self.assertFalse(set(through) & set(had))
            self.assertIn(row[0][1], had)
            self.assertIn(row[-1][2], had)
            if at == 0:
                self.assertEqual(row[0][1], row[-1][2])
            had.extend(through)
        self.assertEqual(sorted(had), piece)

    def assert_one_of(self, told, *wanted):
        self.assertIn(told, wanted)

    def test_no_places_to_go_round(self):
        for many in (1, 2, 16):
            self.assertEqual(handles(Town(many)), [])

    def test_trees_have_none(self):
        self.assertEqual(handles(path(2)), [])
        self.assertEqual(handles(path(16)), [])
        self.assertEqual(handles(made(5, (4, 0), (2, 0), (0, 3), (1, 0))), [])

    def test_two_streets_that_join_the_same_two(self):
        self.assert_one_of(handles(made(2, (0, 1), (0, 1))),
                           [[(0, 0, 1), (1, 1, 0)]], [[(1, 0, 1), (0, 1, 0)]])

    def test_a_ring_is_gone_round_from_its_least_place(self):
        self.assert_one_of(handles(made(4, (3, 2), (1, 3), (2, 1))),
                           [[(1, 1, 3), (0, 3, 2), (2, 2, 1)]],
                           [[(2, 1, 2), (0, 2, 3), (1, 3, 1)]])
        for many in (2, 3, 16):
            town = ring(many)
            self.check(town)
            self.assertEqual(len(handles(town)), 1)

    def test_three_streets_that_join_the_same_two(self):
        town = made(2, (0, 1), (1, 0), (0, 1))
        self.check(town)
        self.assertEqual([len(row) for row in handles(town)], [2, 1])

    def test_a_handle_between_two_places(self):
        town = made(5, (0, 1), (1, 2), (2, 0), (1, 3), (4, 3), (4, 2))
        self.check(town)
        self.assertEqual(len(handles(town)), 2)

    def test_a_handle_that_ends_where_it_begins(self):
        town = made(5, (0, 1), (1, 2), (2, 0), (2, 3), (3, 4), (4, 2))
        self.check(town)
        first, second = handles(town)
        self.assertEqual((second[0][1], second[-1][2]), (2, 2))
        self.assertEqual(sorted(step[0] for step in first), [0, 1, 2])

    def test_two_rings_through_the_least_place(self):
        town = made(5, (0, 1), (1, 2), (2, 0), (0, 3), (3, 4), (4, 0))
        self.check(town)
        self.assertEqual([len(row) for row in handles(town)], [3, 3])
        self.assertEqual([(row[0][1], row[-1][2]) for row in handles(town)], [(0, 0), (0, 0)])

    def test_pieces_that_a_street_joins(self):
        town = made(6, (5, 3), (3, 4), (4, 5), (4, 0), (0, 1), (1, 2), (2, 0))
        self.check(town)
        self.assertEqual([row[0][1] for row in handles(town)], [0, 3])

    def test_pieces_are_told_by_their_least_places(self):
        town = made(7, (6, 0), (4, 2), (1, 3), (3, 1), (2, 4), (0, 6), (1, 3))
        self.check(town)
        self.assertEqual([row[0][1] in (0, 6) for row in handles(town)],
                         [True, False, False, False])
        self.assertEqual([sorted(step[0] for step in row) for row in handles(town)][0], [0, 5])
        self.assertEqual([sorted(step[0] for step in row) for row in handles(town)][3], [1, 4])

    def test_numbers_with_gaps(self):
        town = ring(4)
        town.dig(1)
        self.assertEqual(handles(town), [])
        town.build(2, 1)
        self.check(town)
        self.assertEqual(sorted(step[0] for row in handles(town) for step in row), [0, 2, 3, 4])

    def test_sixty_streets(self):
        self.check(full())
        self.check(made(16, *[(3, 9)] * 60))

    def test_all_towns(self):
        for town in all_towns():
            self.check(town)

    def test_rows_are_the_askers_own_within_too(self):
        town = made(6, (5, 3), (3, 4), (4, 5), (4, 0), (0, 1), (1, 2), (2, 0), (1, 0))
        told = handles(town)
        kept = [list(row) for row in told]
        told[0].append((9, 9, 9))
        told[1].clear()
        told.pop()
        self.assertEqual(handles(town), kept)
        self.check(town)


if __name__ == "__main__":
    unittest.main()
