"""Point 1 over the whole program: what is told, again and again, of a town as it stands."""

import unittest

from onewaytown.building import fewest
from onewaytown.errors import Parted
from onewaytown.handles import handles
from onewaytown.notes import read, written
from onewaytown.oneway import is_one_way, one_way, round_trip
from onewaytown.parting import ends, parting, pieces
from onewaytown.town import Town
from onewaytown.walks import parts, reached
from tests.samples import all_towns, made, ring, stand


def ways_or_why(town):
    """The good ways, or both fields of the refusal."""
    try:
        return one_way(town)
    except Parted as why:
        return [why.between, why.apart]


def a_round(town):
    ways = ways_or_why(town)
    return round_trip(town, ways) if is_one_way(town, ways) else []


ASKED = [
    Town.streets, parts, lambda town: reached(town, 0), parting, pieces, ends, handles,
    ways_or_why, a_round, fewest, lambda town: [written(town)],
]


def lists_in(thing):
    """All lists in what is told, itself too."""
    if not isinstance(thing, (list, tuple)):
        return []
    within = [found for part in thing for found in lists_in(part)]
    return within + [thing] if isinstance(thing, list) else within


def copied(thing):
    """The same again, with lists of its own."""
    if not isinstance(thing, (list, tuple)):
        return thing
    return type(thing)(copied(part) for part in thing)


class Telling(unittest.TestCase):
    def test_the_same_is_told_behind_all_else(self):
        for town in all_towns():
            before = stand(town)
            first = [ask(town) for ask in ASKED]
            self.assertEqual([ask(town) for ask in ASKED[::-1]][::-1], first)
            self.assertEqual(stand(town), before)

    def test_all_lists_are_new_and_the_askers_own(self):
        for town in all_towns():
            for ask in ASKED:
                told = ask(town)
                kept = copied(told)
                again = ask(town)
                marks = [id(row) for row in lists_in(told) + lists_in(again)]
                self.assertEqual(len(set(marks)), len(marks))
                for row in lists_in(told):
                    row.clear()
                self.assertEqual(again, kept)
                self.assertEqual(ask(town), kept)

    def test_asking_builds_nothing(self):
        for town, built in ((Town(2), 0), (ring(16), 16), (made(3, *[(0, 2)] * 59), 59)):
            for ask in ASKED:
                ask(town)
            self.assertEqual(town.build(0, 1), built)

    def test_the_same_is_told_of_towns_that_stand_alike(self):
        for town in all_towns():
            other = read(written(town))
            if other.streets() == town.streets():
                self.assertEqual([ask(other) for ask in ASKED], [ask(town) for ask in ASKED])

    def test_towns_know_nothing_of_one_another(self):
        one, other = ring(3), ring(3)
        one.dig(2)
        self.assertEqual(other.streets(), ring(3).streets())
        self.assertEqual([ask(other) for ask in ASKED], [ask(ring(3)) for ask in ASKED])
        self.assertEqual(one.build(0, 2), 3)
        self.assertEqual(other.build(0, 2), 3)


if __name__ == "__main__":
    unittest.main()
