"""Points 1 and 10, and the interface's notes.py."""

import re
import unittest
from itertools import product

from onewaytown.errors import BadText
from onewaytown.notes import read, written
from onewaytown.town import Town
from tests.samples import ANY_KIND, all_towns, full, made, path, ring, stand

# Signs that are put into texts: some of texts, and some that only look so.
SIGNS = "0123456789 \n\tplaces-+._ \r\v\f,;xAP\x00\x1c\x85\u00a0\u00b2\u0663\uff11\u2028\u2160"

NUMBER = "(?:0|[1-9][0-9]*)"
WRITTEN = re.compile(f"places {NUMBER}(?:\n{NUMBER} {NUMBER})*")


def is_written(text):
    """Whether a text is one of a town, told by its signs and then by its numbers."""
    if not WRITTEN.fullmatch(text):
        return False
    many, *ends = [int(word) for word in re.findall("[0-9]+", text)]
    pairs = list(zip(ends[::2], ends[1::2]))
    return (1 <= many <= 16 and len(pairs) <= 60
            and all(one != other and max(one, other) < many for one, other in pairs))


def edits(text):
    """The texts with one sign put in, left out or written over."""
    for at, sign in product(range(len(text) + 1), SIGNS):
        yield text[:at] + sign + text[at:]
        yield text[:at] + sign + text[at + 1:]
    for at in range(len(text)):
        yield text[:at] + text[at + 1:]


class Written(unittest.TestCase):
    def test_no_streets(self):
        self.assertEqual(written(Town(1)), "places 1")
        self.assertEqual(written(Town(16)), "places 16")

    def test_ends_as_they_were_built(self):
        town = made(12, (0, 1), (11, 10), (1, 0), (0, 1), (9, 0))
        self.assertEqual(written(town), "places 12\n0 1\n11 10\n1 0\n0 1\n9 0")

    def test_numbers_with_gaps(self):
        town = made(3, (2, 1), (0, 1), (1, 2))
        town.dig(1)
        town.build(2, 0)
        self.assertEqual(written(town), "places 3\n2 1\n1 2\n2 0")
        for street in (0, 2, 3):
            town.dig(street)
        self.assertEqual(written(town), "places 3")

    def test_sixty_streets(self):
        rows = written(full()).split("\n")
        self.assertEqual(len(rows), 61)
        self.assertEqual([rows[0], rows[1], rows[60]], ["places 16", "0 1", "4 10"])

    def test_all_towns(self):
        for town in all_towns():
            before = stand(town)
            text = written(town)
            self.assertIs(type(text), str)
            self.assertTrue(is_written(text))
            self.assertEqual(text.split("\n"), [f"places {town.places()}"] + [
                f"{one} {other}" for _, one, other in town.streets()])
            self.assertEqual(written(town), text)
            self.assertEqual(stand(town), before)


class Read(unittest.TestCase):
    def refused(self, thing):
        with self.assertRaises(BadText) as caught:
            read(thing)
        self.assertIs(type(caught.exception), BadText)

    def test_no_streets(self):
        for many in range(1, 17):
            town = read(f"places {many}")
            self.assertIs(type(town), Town)
            self.assertEqual(stand(town), (many, []))

    def test_streets_are_numbered_row_by_row(self):
        town = read("places 12\n0 1\n11 10\n1 0\n0 1\n9 0")
        self.assertEqual(stand(town), (12, [(0, 0, 1), (1, 11, 10), (2, 1, 0), (3, 0, 1), (4, 9, 0)]))
        self.assertEqual(town.build(0, 2), 5)

    def test_numbers_with_gaps_are_read_from_0_on(self):
        town = ring(4)
        town.dig(0)
        town.dig(2)
        town.build(0, 2)
        self.assertEqual(town.streets(), [(1, 1, 2), (3, 3, 0), (4, 0, 2)])
        self.assertEqual(read(written(town)).streets(), [(0, 1, 2), (1, 3, 0), (2, 0, 2)])

    def test_a_town_of_its_own_each_time(self):
        text = "places 3\n0 1\n1 2"
        first, second = read(text), read(text)
        first.dig(0)
        first.build(2, 0)
        self.assertEqual(second.streets(), [(0, 0, 1), (1, 1, 2)])
        self.assertEqual(read(text).streets(), [(0, 0, 1), (1, 1, 2)])
        self.assertEqual(first.streets(), [(1, 1, 2), (2, 2, 0)])

    def test_all_towns(self):
        for town in all_towns():
            again = read(written(town))
            self.assertEqual(again.places(), town.places())
            self.assertEqual(again.streets(), [
                (at, one, other) for at, (_, one, other) in enumerate(town.streets())])

    def test_how_many_places(self):
        for wrong in ("0", "17", "18", "99", "100", "160", "-1", "+1", "01", "001", "1.0", "1e0",
                      "0x1", "one", "", " ", "1 ", " 1", "1_0", "1\t", "1" * 10000,
                      "0" * 10000 + "1", "\u0663", "\u00b2", "\uff11", "\u2160", "\U0001d7cf"):
            with self.subTest(wrong[:20]):
                self.refused("places " + wrong)

    def test_the_first_row(self):
        for wrong in ("", " ", "\n", "places", "places ", "places\n3", "Places 3", "PLACES 3",
                      "place 3", "placess 3", "streets 3", "places  3", "places\t3", "3",
                      "places 3 ", " places 3", "3 places", "places 3 0 1", "places3", "0 1",
                      "\ufeffplaces 3", "places\u00a03", "places 3;0 1", "\nplaces 3",
                      "places 3\nplaces 3", "0 1\nplaces 3"):
            with self.subTest(wrong):
                self.refused(wrong)

    def test_line_ends_stand_between_only(self):
        text = "places 3\n0 1\n1 2"
        self.assertEqual(read(text).streets(), [(0, 0, 1), (1, 1, 2)])
        for wrong in (text + "\n", "\n" + text, text.replace("\n", "\n\n"), text + "\n\n",
                      text.replace("\n", "\r\n"), text.replace("\n", "\r"), text + "\r",
                      text.replace("\n", "\v"), text.replace("\n", "\u2028"),
                      text.replace("\n", "\x85"), text.replace("\n", " "), text + "\x00",
                      "places 3\n"):
            self.refused(wrong)

    def test_rows_of_streets(self):
        for wrong in ("", " ", "0", "1", "0 ", " 1", "0  1", "0 1 ", " 0 1", "0 1 2", "0\t1",
                      "0-1", "0,1", "01", "a b", "A B", "0 b", "00 1", "0 01", "-0 1", "+0 1",
                      "0 +1", "0 1.0", "0 \u0661", "\u0660 1", "0 \u00b9", "0 \uff11", "0 -1",
                      "-1 0", "0 " + "1" * 10000, "True False", "0 1\t"):
            with self.subTest(wrong[:20]):
                self.refused("places 3\n" + wrong)
                self.refused("places 3\n0 1\n" + wrong)
                self.refused("places 3\n" + wrong + "\n0 1")

    def test_places_that_are_none(self):
        for many in range(1, 17):
            for wrong in (many, many + 1, 16, 17, 99):
                self.refused(f"places {many}\n0 {wrong}")
                self.refused(f"places {many}\n{wrong} 0")
                self.refused(f"places {many}\n{wrong} {wrong + 1}")

    def test_one_place_twice(self):
        for place in range(16):
            self.refused(f"places 16\n{place} {place}")
        self.refused("places 1\n0 0")

    def test_sixty_streets_and_no_more(self):
        text = written(full())
        self.assertEqual(read(text).streets(), full().streets())
        self.refused(text + "\n0 1")
        self.refused(text + "\n15 14" * 2)
        self.refused(text + "\n")
        self.assertEqual(len(read("places 2" + "\n1 0" * 60).streets()), 60)
        self.refused("places 2" + "\n1 0" * 61)
        self.refused("places 2" + "\n1 0" * 5000)

    def test_all_short_texts_of_few_signs(self):
        for length in range(1, 6):
            for signs in product("012 \n", repeat=length):
                self.settled("places 2" + "".join(signs))

    def test_each_sign_put_in_left_out_or_written_over(self):
        for town in (Town(1), path(2), ring(3), made(12, (11, 10), (0, 9), (1, 11))):
            for text in edits(written(town)):
                self.settled(text)

    def settled(self, text):
        """A text is read if it is written so, and refused if not."""
        if is_written(text):
            self.assertEqual(written(read(text)), text)
        else:
            self.refused(text)

    def test_things_of_any_kind(self):
        for thing in ANY_KIND:
            self.refused(thing)

    def test_what_is_handed_in_stays(self):
        rows = ["places 2", "0 1"]
        self.refused(rows)
        self.assertEqual(rows, ["places 2", "0 1"])


if __name__ == "__main__":
    unittest.main()
