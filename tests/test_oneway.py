"""Points 1, 7 and 8, and the interface's oneway.py."""

import unittest
from itertools import permutations, product

from onewaytown.errors import BadWays, Parted
from onewaytown.oneway import is_one_way, one_way, round_trip
from onewaytown.town import Town
from tests.samples import (
    ANY_KIND, Fails, Poses, all_towns, full, made, path, plain_good, plain_made_one_way,
    plain_parting, plain_parts, ring, small_towns, stand, turned,
)


class Numbered(int):
    """A kind of its own under int."""


def all_ways(rows):
    """All ways to walk each street the one way or the other."""
    return [list(ways) for ways in product(*[(row, turned(row)) for row in rows])]


def few_streets(most):
    return [town for town in small_towns() if len(town.streets()) <= most]


def one_way_towns():
    return [town for town in all_towns() if plain_made_one_way(town.places(), town.streets())]


def gapped():
    """A town with good ways, of whose streets two were dug up ahead of the last one."""
    town = made(5, (0, 1), (1, 2), (0, 4), (2, 3), (3, 0), (4, 2), (2, 0), (1, 4), (4, 2))
    town.dig(2)
    town.dig(5)
    town.build(4, 1)
    return town


class OneWay(unittest.TestCase):
    def check(self, town):
        """What is told of a town that has good ways is what point 7 says."""
        rows = town.streets()
        ways = one_way(town)
        self.assertIs(type(ways), list)
        self.assertEqual(len(ways), len(rows))
        for step, row in zip(ways, rows):
            self.assertIs(type(step), tuple)
            self.assertEqual([type(number) for number in step], [int] * 3)
            self.assertIn(step, (row, turned(row)))
        self.assertTrue(plain_good(town.places(), ways))
        self.assertIs(is_one_way(town, ways), True)
        self.assertEqual(one_way(town), ways)
        self.assertEqual(town.streets(), rows)

    def refused(self, town):
        before = stand(town)
        with self.assertRaises(Parted) as caught:
            one_way(town)
        self.assertEqual(stand(town), before)
        return caught.exception

    def test_one_place_alone(self):
        self.assertEqual(one_way(Town(1)), [])

    def test_rings(self):
        self.assertIn(one_way(made(3, (0, 1), (2, 1), (0, 2))),
                      ([(0, 0, 1), (1, 1, 2), (2, 2, 0)], [(0, 1, 0), (1, 2, 1), (2, 0, 2)]))
        for many in (2, 3, 16):
            self.check(ring(many))

    def test_streets_that_join_the_same_two(self):
        self.check(made(2, (0, 1), (0, 1)))
        self.check(made(2, (0, 1), (1, 0), (0, 1), (0, 1)))

    def test_rings_at_one_place(self):
        self.check(made(5, (0, 1), (1, 2), (2, 0), (2, 3), (3, 4), (4, 2)))

    def test_numbers_with_gaps(self):
        self.check(gapped())
        self.assertEqual([step[0] for step in one_way(gapped())], [0, 1, 3, 4, 6, 7, 8, 9])

    def test_sixty_streets(self):
        self.check(full())
        self.check(made(2, *[(1, 0)] * 60))

    def test_where_a_street_parts(self):
        why = self.refused(path(4))
        self.assertEqual((why.between, why.apart), ([0, 1, 2], [[0, 1, 2, 3]]))
        why = self.refused(made(6, (3, 4), (0, 1), (2, 3), (1, 2), (4, 5), (2, 0), (5, 3)))
        self.assertEqual((why.between, why.apart), ([2], [[0, 1, 2, 3, 4, 5]]))

    def test_where_there_are_several_parts(self):
        why = self.refused(Town(2))
        self.assertEqual((why.between, why.apart), ([], [[0], [1]]))
        why = self.refused(made(5, (0, 2), (1, 3), (2, 0), (3, 1), (0, 4)))
        self.assertEqual((why.between, why.apart), ([4], [[0, 2, 4], [1, 3]]))
        why = self.refused(made(4, (3, 1), (0, 2), (1, 3), (2, 0)))
        self.assertEqual((why.between, why.apart), ([], [[0, 2], [1, 3]]))

    def test_good_ways_are_told_just_where_there_are_any(self):
        for town in few_streets(6):
            many, rows = town.places(), town.streets()
            some = any(plain_good(many, ways) for ways in all_ways(rows))
            self.assertEqual(some, plain_made_one_way(many, rows))

    def test_all_towns(self):
        for town in all_towns():
            many, rows = town.places(), town.streets()
            if plain_made_one_way(many, rows):
                self.check(town)
            else:
                why = self.refused(town)
                self.assertEqual(why.between, plain_parting(many, rows))
                self.assertEqual(why.apart, plain_parts(many, rows))

    def test_it_follows_what_is_built_and_dug_up(self):
        town = path(3)
        self.refused(town)
        town.build(2, 0)
        self.check(town)
        town.dig(1)
        self.assertEqual(self.refused(town).between, [0, 2])

    def test_ways_are_the_askers_own(self):
        town = full()
        told = one_way(town)
        kept = list(told)
        told.reverse()
        told.pop()
        self.assertEqual(one_way(town), kept)

    def test_fields_are_the_askers_own_within_too(self):
        town = made(4, (0, 1), (1, 2))
        why = self.refused(town)
        self.assertIs(type(why.between), list)
        self.assertEqual([type(part) for part in [why.apart, *why.apart]], [list] * 3)
        why.between.clear()
        why.apart[0].append(3)
        why.apart.pop()
        again = self.refused(town)
        self.assertEqual((again.between, again.apart), ([0, 1], [[0, 1, 2], [3]]))


class IsOneWay(unittest.TestCase):
    def assert_none(self, town, thing):
        self.assertIs(is_one_way(town, thing), False)

    def test_one_place_alone(self):
        self.assertIs(is_one_way(Town(1), []), True)
        self.assert_none(Town(1), ())
        self.assert_none(Town(1), [(0, 0, 0)])

    def test_no_streets_between_places(self):
        self.assert_none(Town(2), [])
        self.assert_none(Town(16), [])

    def test_a_ring_is_walked_round_either_way(self):
        town = made(3, (0, 1), (2, 1), (0, 2))
        for ways in all_ways(town.streets()):
            good = ways in ([(0, 0, 1), (1, 1, 2), (2, 2, 0)], [(0, 1, 0), (1, 2, 1), (2, 0, 2)])
            self.assertIs(is_one_way(town, ways), good)

    def test_ways_that_lead_out_only_or_in_only(self):
        town = made(4, (0, 1), (1, 0), (2, 3), (3, 2), (1, 2), (2, 1))
        good = [(0, 0, 1), (1, 1, 0), (2, 2, 3), (3, 3, 2), (4, 1, 2), (5, 2, 1)]
        self.assertIs(is_one_way(town, good), True)
        self.assert_none(town, good[:5] + [(5, 1, 2)])
        self.assert_none(town, good[:4] + [(4, 2, 1), (5, 2, 1)])
        self.assert_none(town, [(0, 1, 0)] + good[1:])

    def test_all_ways_of_small_towns(self):
        for town in few_streets(6):
            for ways in all_ways(town.streets()):
                self.assertIs(is_one_way(town, ways), plain_good(town.places(), ways))

    def test_all_turned_is_as_good(self):
        for town in one_way_towns():
            self.assertIs(is_one_way(town, [turned(step) for step in one_way(town)]), True)

    def test_one_street_turned(self):
        for town in (gapped(), ring(16), full()):
            ways = one_way(town)
            for at, step in enumerate(ways):
                other = ways[:at] + [turned(step)] + ways[at + 1:]
                self.assertIs(is_one_way(town, other), plain_good(town.places(), other))

    def test_a_street_left_out_or_twice(self):
        for town in (gapped(), ring(2), full()):
            ways = one_way(town)
            for at in range(len(ways)):
                self.assert_none(town, ways[:at] + ways[at + 1:])
                self.assert_none(town, ways[:at] + [ways[at]] + ways[at:])
                self.assert_none(town, ways[:at] + [ways[at - 1]] + ways[at + 1:])
            self.assert_none(town, ways + ways)
            self.assert_none(town, ways + [None])

    def test_another_order(self):
        town = made(2, (0, 1), (0, 1), (1, 0), (1, 0))
        ways = one_way(town)
        for other in permutations(ways):
            self.assertIs(is_one_way(town, list(other)), list(other) == ways)
        self.assert_none(gapped(), one_way(gapped())[::-1])

    def test_a_street_that_is_not_there(self):
        town = gapped()
        ways = one_way(town)
        for wrong in (2, 5, 10, -1, 10 ** 30):
            self.assert_none(town, ways[:2] + [(wrong, *ways[2][1:])] + ways[3:])
            self.assert_none(town, ways + [(wrong, 0, 1)])

    def test_an_end_that_is_none(self):
        town = made(3, (0, 1), (1, 2), (2, 0), (0, 1))
        ways = one_way(town)
        for at, (street, one, other) in enumerate(ways):
            for ends in product((-1, 0, 1, 2, 3, 16, 10 ** 30), repeat=2):
                if ends not in ((one, other), (other, one)):
                    self.assert_none(town, ways[:at] + [(street, *ends)] + ways[at + 1:])

    def test_steps_that_hold_more_or_less(self):
        town = ring(3)
        ways = one_way(town)
        for at, step in enumerate(ways):
            for wrong in ((), step[:1], step[:2], step[1:], step + (0,), step + step, (step,),
                          list(step), [step], dict.fromkeys(step), set(step), str(step)):
                self.assert_none(town, ways[:at] + [wrong] + ways[at + 1:])

    def test_numbers_of_other_kinds(self):
        # True, 1.0 and some more are equal to the number in whose place they stand.
        town = made(2, (0, 1), (1, 0))
        ways = one_way(town)
        for at, step in enumerate(ways):
            for place, number in enumerate(step):
                equal = [bool(number), float(number), complex(number), Numbered(number)]
                for wrong in equal + [str(number), -number - 1, None, [number], Fails(), Poses()]:
                    other = step[:place] + (wrong,) + step[place + 1:]
                    self.assert_none(town, ways[:at] + [other] + ways[at + 1:])

    def test_steps_of_any_kind(self):
        town = ring(3)
        ways = one_way(town)
        for thing in ANY_KIND:
            for at in range(3):
                self.assert_none(town, ways[:at] + [thing] + ways[at + 1:])

    def test_things_of_any_kind(self):
        for town in (Town(1), Town(2), ring(3), path(3), full()):
            before = stand(town)
            for thing in ANY_KIND:
                if type(thing) != list or thing != []:
                    self.assert_none(town, thing)
            self.assertEqual(stand(town), before)

    def test_another_kind_of_row(self):
        town = ring(4)
        ways = one_way(town)
        for thing in (tuple(ways), iter(ways), dict.fromkeys(ways), set(ways), str(ways),
                      {step[0]: step for step in ways}, [ways], zip(*zip(*ways))):
            self.assert_none(town, thing)

    def test_ways_of_another_town(self):
        self.assert_none(ring(4), one_way(ring(3)))
        self.assert_none(ring(3), one_way(ring(4)))
        self.assert_none(made(4, (0, 2), (2, 1), (1, 3), (3, 0)), one_way(ring(4)))

    def test_what_is_handed_in_stays(self):
        town = gapped()
        for ways in (one_way(town), one_way(town)[::-1], [[0, 1], [(0,)]]):
            kept = [step[:] for step in ways]
            is_one_way(town, ways)
            self.assertEqual(ways, kept)


class RoundTrip(unittest.TestCase):
    def check(self, town, ways):
        """What is told of good ways is what point 8 says."""
        kept, before = list(ways), stand(town)
        told = round_trip(town, ways)
        self.assertIs(type(told), list)
        at = 0
        for step in told:
            self.assertIs(type(step), tuple)
            self.assertIn(step, ways)
            self.assertEqual(step[1], at)
            at = step[2]
        self.assertEqual(at, 0)
        self.assertEqual(sorted(set(told)), ways)
        self.assertEqual(round_trip(town, ways), told)
        self.assertEqual((ways, stand(town)), (kept, before))
        return told

    def refused(self, town, thing):
        before = stand(town)
        with self.assertRaises(BadWays) as caught:
            round_trip(town, thing)
        self.assertIs(type(caught.exception), BadWays)
        self.assertEqual(stand(town), before)

    def test_where_there_are_no_streets(self):
        self.assertEqual(round_trip(Town(1), []), [])

    def test_a_ring_is_gone_round_once(self):
        town = made(3, (1, 2), (0, 1), (2, 0))
        self.assertEqual(self.check(town, [(0, 1, 2), (1, 0, 1), (2, 2, 0)]),
                         [(1, 0, 1), (0, 1, 2), (2, 2, 0)])
        self.assertEqual(self.check(town, [(0, 2, 1), (1, 1, 0), (2, 0, 2)]),
                         [(2, 0, 2), (0, 2, 1), (1, 1, 0)])

    def test_steps_are_taken_again(self):
        town = made(2, (0, 1), (0, 1), (0, 1))
        told = self.check(town, [(0, 0, 1), (1, 0, 1), (2, 1, 0)])
        self.assertGreater(told.count((2, 1, 0)), 1)

    def test_all_good_ways_of_small_towns(self):
        for town in few_streets(5):
            for ways in all_ways(town.streets()):
                if plain_good(town.places(), ways):
                    self.check(town, ways)
                else:
                    self.refused(town, ways)

    def test_all_towns(self):
        for town in one_way_towns():
            ways = one_way(town)
            self.check(town, ways)
            self.check(town, [turned(step) for step in ways])

    def test_numbers_with_gaps(self):
        self.check(gapped(), one_way(gapped()))

    def test_ways_that_are_not_good(self):
        town = gapped()
        ways = one_way(town)
        for wrong in (ways[1:], ways + ways[:1], ways[::-1], tuple(ways), iter(ways), ways[:-1],
                      [list(step) for step in ways], [turned(ways[0])] + ways[1:2] * 7,
                      ways[:-1] + [(9, 4, 5)], ways[:-1] + [None], str(ways), one_way(ring(4))):
            self.refused(town, wrong)
        self.refused(ring(3), [(0, 0, 1), (1, 1, 2), (2, 0, 2)])
        self.refused(made(2, (0, 1), (0, 1)), [(0, 0, True), (1, 1, 0)])

    def test_towns_that_have_none(self):
        self.refused(path(2), [(0, 0, 1)])
        self.refused(Town(2), [])
        self.refused(made(4, (0, 1), (1, 0), (2, 3), (3, 2)),
                     [(0, 0, 1), (1, 1, 0), (2, 2, 3), (3, 3, 2)])

    def test_things_of_any_kind(self):
        for town in (Town(1), Town(2), ring(3), path(3), full()):
            for thing in ANY_KIND:
                if type(thing) != list or thing != []:
                    self.refused(town, thing)

    def test_the_round_is_the_askers_own_and_the_ways_are_not_kept(self):
        town = gapped()
        ways = one_way(town)
        kept = list(ways)
        told = round_trip(town, ways)
        first = list(told)
        told.clear()
        self.assertEqual(ways, kept)
        self.assertEqual(round_trip(town, ways), first)
        ways.clear()
        self.assertEqual(round_trip(town, kept), first)
        self.refused(town, ways)


if __name__ == "__main__":
    unittest.main()
