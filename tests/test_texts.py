import copy
import re
import unittest

from helper import MOST, NO_NUMBERS, beyond_map, every_map, made_map, told_maps
from nodeladder.errors import LadderError, NoText
from nodeladder.texts import map_read, map_shown

SIGNS = [chr(code) for code in range(32, 127)] + ["\t", "\n", "\r"]
NUMBER = "(0|[1-9][0-9]{0,59})"
ROAD = f"; road {NUMBER} {NUMBER} ({NUMBER}|-) {NUMBER}"


def own_read(text):
    """The map that a text writes, by patterns; None where it writes none."""
    if not re.fullmatch(f"places {NUMBER}({ROAD})*", text):
        return None
    many = int(text.split(";")[0].split()[1])
    roads = []
    for part in text.split(";")[1:]:
        one, other, length, width = part.split()[1:]
        roads.append((int(one), int(other), None if length == "-" else int(length), int(width)))
    right = all(one != other and max(one, other) < many for one, other, length, width in roads)
    return (many, roads) if right and 1 <= many <= 16 and len(roads) <= 60 else None


def changed_texts(text):
    """Each text with one sign put in, taken out, exchanged or written twice."""
    for k in range(len(text) + 1):
        for sign in SIGNS:
            yield text[:k] + sign + text[k:]
            yield text[:k] + sign + text[k + 1:]
        yield text[:k] + text[k + 1:]
        yield text[:k] + text[k:k + 1] + text[k:]


class ShownTest(unittest.TestCase):
    def test_sign_for_sign(self):
        for net, text in (
                ((3, [(0, 1, 5, 1), (1, 2, None, 0)]), "places 3; road 0 1 5 1; road 1 2 - 0"),
                ((1, []), "places 1"),
                ((16, []), "places 16"),
                ((16, [(15, 0, 0, 0), (10, 9, 10, 907)]), "places 16; road 15 0 0 0; road 10 9 10 907"),
                ((2, [(0, 1, MOST, MOST)]), f"places 2; road 0 1 {'9' * 60} {'9' * 60}"),
                ((2, [(1, 0, 10 ** 59, 0)] * 2), f"places 2; road 1 0 1{'0' * 59} 0; road 1 0 1{'0' * 59} 0")):
            with self.subTest(text):
                self.assertEqual(map_shown(net), text)
                self.assertEqual(map_read(text), net)

    def test_there_and_back(self):
        nets = every_map() + [made_map(seed, 1 + seed % 16, 60) for seed in range(64)]
        nets += [(2, [(k % 2, 1 - k % 2, None if k % 3 else k, k) for k in range(roads)]) for roads in range(61)]
        for net in nets:
            handed = copy.deepcopy(net)
            text = map_shown(handed)
            self.assertIs(text.__class__, str)
            self.assertEqual(handed, net)
            self.assertEqual(own_read(text), net)
            self.assertEqual(map_read(text), net)
            self.assertEqual(map_shown(map_read(text)), text)

    def test_what_lies_beyond_the_bounds_is_shown(self):
        net = beyond_map()
        text = map_shown(net)
        self.assertEqual(text.split("; ")[0], "places 19")
        self.assertEqual(text.split("; ")[-1], f"road 18 0 1{'0' * 60} 0")
        self.assertEqual(len(text.split("; ")), 1 + len(net[1]))
        self.assertRaises(NoText, map_read, text)

    def test_the_names_of_what_is_handed_in(self):
        self.assertEqual(map_shown(net=(1, [])), "places 1")
        self.assertEqual(map_read(text="places 1"), (1, []))


class ReadTest(unittest.TestCase):
    def assert_no_text(self, text):
        with self.subTest(repr(text)), self.assertRaises(NoText):
            map_read(text)

    def test_kinds(self):
        net = map_read("places 3; road 0 1 5 1; road 1 2 - 0")
        self.assertEqual([net.__class__, net[0].__class__, net[1].__class__], [tuple, int, list])
        self.assertEqual([road.__class__ for road in net[1]], [tuple, tuple])
        self.assertEqual([part.__class__ for road in net[1] for part in road], [int] * 6 + [None.__class__, int])

    def test_a_new_map_each_time(self):
        text = "places 3; road 0 1 5 1; road 1 2 - 0"
        map_read(text)[1].clear()
        self.assertEqual(map_read(text), (3, [(0, 1, 5, 1), (1, 2, None, 0)]))

    def test_one_sign_changed(self):
        refused = 0
        for text in ("places 3; road 0 1 5 1; road 1 2 - 0", "places 1", "places 16; road 15 10 60 7", "places 10",
                     f"places 2; road 1 0 {'1' * 60} 0", f"places 2; road 1 0 0 1{'0' * 58}"):
            for changed in changed_texts(text):
                right = own_read(changed)
                if right is None:
                    refused += 1
                    try:
                        told = map_read(changed)
                    except NoText:
                        continue
                    self.fail(f"{changed!r} was read as {told}")
                else:
                    self.assertEqual(map_read(changed), right, changed)
        self.assertGreater(refused, 10000)

    def test_numbers(self):
        for word in ("00", "01", "05", "+5", "-5", "--", "- ", "", "5.0", "5e1", "0x5", "1_0", "five", "None", "-0",
                     "+0", "1" * 61, "0" * 60, "0" * 61, "5\n", "\t5", "True", "+", "1,0"):
            self.assert_no_text(f"places {word}")
            for text in (f"places 9; road {word} 1 5 1", f"places 9; road 0 {word} 5 1",
                         f"places 9; road 0 1 {word} 1", f"places 9; road 0 1 5 {word}"):
                self.assert_no_text(text)
        for text in ("places -", "places 9; road - 1 5 1", "places 9; road 0 - 5 1", "places 9; road 0 1 5 -"):
            self.assert_no_text(text)

    def test_numbers_at_the_bounds(self):
        for word in ("0", "9", "10", "1" * 60, "9" * 60, "1" + "0" * 59):
            self.assertEqual(map_read(f"places 2; road 0 1 {word} {word}"), (2, [(0, 1, int(word), int(word))]))

    def test_blanks_tabs_and_line_ends(self):
        for text in ("", " ", ";", "; ", "places", "places ", " places 1", "places 1 ", "places  1", "places\t1",
                     "places\n1", "places 1\n", "\nplaces 1", "places 1\r\n", "places1", "places 1;", "places 1; ",
                     "places 1 ;", "places 1; ; ", "; places 1", "places 2;road 0 1 5 1", "places 2;  road 0 1 5 1",
                     "places 2 ; road 0 1 5 1", "places 2; road 0 1 5 1;", "places 2; road 0 1 5 1; ",
                     "places 2; road 0 1 5 1 ", "places 2; road 0  1 5 1", "places 2; road  0 1 5 1",
                     "places 2; road 0 1 5 1\n", "places 2;\nroad 0 1 5 1", "places 2; road\t0 1 5 1",
                     "places 2; road 0 1 5\n1", "places 2;; road 0 1 5 1", "places 2; ; road 0 1 5 1",
                     "places 2, road 0 1 5 1", "places 2\nroad 0 1 5 1"):
            self.assert_no_text(text)

    def test_words(self):
        for text in ("place 2", "Places 2", "PLACES 2", "2", "places 2 2", "places 2 road 0 1 5 1", "road 0 1 5 1",
                     "places 2; roads 0 1 5 1", "places 2; Road 0 1 5 1", "places 2; road 0 1 5", "places 2; road",
                     "places 2; road 0 1 5 1 1", "places 2; 0 1 5 1", "places 2; places 2", "road 0 1 5 1; places 2",
                     "places 2; road 0 1 5 1; places 2", "places 2; road 0 1 shut 1", "places 2; road 0 1 none 1"):
            self.assert_no_text(text)

    def test_what_is_written_well_and_is_no_map(self):
        road = "; road 0 1 5 1"
        for text in ("places 0", "places 17", "places 100", "places " + "9" * 60, "places 1; road 0 0 5 1",
                     "places 2; road 1 1 5 1", "places 2; road 0 2 5 1", "places 2; road 2 0 5 1",
                     "places 16; road 0 16 5 1", "places 1; road 0 1 5 1", "places 2; road 0 1 5 1; road 1 1 - 0",
                     "places 2" + road * 61, "places 2" + road * 199, "places 17" + road):
            self.assert_no_text(text)
        self.assertEqual(map_read("places 2" + road * 60), (2, [(0, 1, 5, 1)] * 60))

    def test_things_that_are_no_texts(self):
        for thing in [thing for thing in NO_NUMBERS if not isinstance(thing, str)] + [
                0, 1, 3, (1, []), (3, [(0, 1, 5, 1)]), ["places 1"], ("places 1",), b"places 1", {"places": 1}, len]:
            self.assert_no_text(thing)
        self.assertRaises(LadderError, map_read, None)

    def test_texts_of_the_maps_at_the_edges(self):
        for name, net in told_maps().items():
            with self.subTest(name):
                self.assertEqual(map_read(map_shown(net)), net)


if __name__ == "__main__":
    unittest.main()
