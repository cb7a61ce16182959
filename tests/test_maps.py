import copy
import unittest

from nodeladder.errors import NoMap
from nodeladder.maps import checked, is_map, turned

MOST = 10 ** 60 - 1


def long_roads(count, many=16):
    """So many roads over so many places, every third one shut."""
    return [(k % many, (k + 1 + k // many) % many, None if k % 3 == 0 else k, k + 1) for k in range(count)]


def right_maps():
    return {
        "one place": (1, []),
        "two places, no road": (2, []),
        "sixteen places, no road": (16, []),
        "one road": (2, [(0, 1, 5, 1)]),
        "first to last of sixteen": (16, [(0, 15, 1, 1), (15, 0, 1, 1)]),
        "sixty roads": (16, long_roads(60)),
        "sixty roads of two places": (2, [(k % 2, 1 - k % 2, k, k) for k in range(60)]),
        "shut": (3, [(0, 1, None, 0), (1, 2, None, 7)]),
        "least lengths and widths": (2, [(0, 1, 0, 0)]),
        "greatest lengths and widths": (2, [(0, 1, MOST, MOST)]),
        "shut and widest": (2, [(1, 0, None, MOST)]),
        "several alike": (2, [(0, 1, 5, 1), (0, 1, 5, 1), (0, 1, 6, 2), (1, 0, 5, 1), (0, 1, None, 1)]),
    }


def wrong_roads():
    """Things that are no road of a map with three places."""
    wrong = {
        "a list": [0, 1, 5, 1],
        "three things": (0, 1, 5),
        "five things": (0, 1, 5, 1, 1),
        "no things": (),
        "None": None,
        "a number": 4,
        "a text": "0151",
        "a dict": {0: 0, 1: 1, 2: 5, 3: 1},
        "itself at 0": (0, 0, 5, 1),
        "itself at 2": (2, 2, 5, 1),
        "itself, shut": (1, 1, None, 1),
    }
    for thing in (-1, -3, 3, 4, True, False, "1", None, [1], (1,), 1.0):
        wrong[f"from {thing!r}"] = (thing, 2, 5, 1)
        wrong[f"to {thing!r}"] = (2, thing, 5, 1)
    for thing in (-1, -MOST, 10 ** 60, 10 ** 61, True, False, "5", "", [5], (5,), 5.0):
        wrong[f"length {thing!r}"] = (0, 1, thing, 1)
        wrong[f"width {thing!r}"] = (0, 1, 5, thing)
        wrong[f"width {thing!r}, shut"] = (0, 1, None, thing)
    wrong["width None"] = (0, 1, 5, None)
    wrong["width None, shut"] = (0, 1, None, None)
    return wrong


def no_maps():
    wrong = {
        "61 roads": (16, long_roads(61)),
        "61 shut roads": (2, [(0, 1, None, 0)] * 61),
        "roads as a tuple": (2, ((0, 1, 5, 1),)),
        "no roads as a tuple": (2, ()),
        "roads as a dict": (2, {}),
        "roads as a text": (2, ""),
        "roads None": (2, None),
        "roads a number": (2, 0),
        "a list": [2, [(0, 1, 5, 1)]],
        "too few, the count": (2,),
        "too few, the roads": ([],),
        "none at all": (),
        "too many": (2, [], []),
        "too many, with None": (2, [(0, 1, 5, 1)], None),
        "the wrong way round": ([], 2),
    }
    for many in (0, 17, 18, -1, -16, 10 ** 60, True, False, "2", "", None, [2], (2,), 2.0):
        wrong[f"many {many!r}"] = (many, [])
    for many in (1, 2, 17, True):
        wrong[f"many {many!r}, roads to 1 and 2"] = (many, [(0, 1, 5, 1), (0, 2, 5, 1)])
    for thing in (None, True, False, 0, 2, -1, 10 ** 70, 1.5, "", "ab", "places 1", [], [1, []], [None], {},
                  {0: 2, 1: []}, set(), b"ab", object(), int, len):
        wrong[f"the thing {thing!r}"] = thing
    for name, road in wrong_roads().items():
        right = (0, 1, 5, 1)
        wrong[f"only road: {name}"] = (3, [road])
        wrong[f"first road: {name}"] = (3, [road, right])
        wrong[f"last road: {name}"] = (3, [right, right, road])
    return wrong


class IsMapTest(unittest.TestCase):
    def test_right_maps(self):
        for name, net in right_maps().items():
            with self.subTest(name):
                self.assertIs(is_map(net), True)

    def test_no_maps(self):
        for name, thing in no_maps().items():
            with self.subTest(name):
                self.assertIs(is_map(thing), False)

    def test_every_count_of_places(self):
        for many in range(-2, 20):
            with self.subTest(many):
                self.assertIs(is_map((many, [])), 1 <= many <= 16)

    def test_every_pair_of_places(self):
        for many in (1, 2, 3, 16):
            for one in range(-2, many + 2):
                for other in range(-2, many + 2):
                    with self.subTest(many=many, one=one, other=other):
                        right = 0 <= one < many and 0 <= other < many and one != other
                        self.assertIs(is_map((many, [(one, other, 1, 1)])), right)

    def test_what_is_handed_in_stays(self):
        for things in (right_maps(), no_maps()):
            for name, thing in things.items():
                if isinstance(thing, (tuple, list, dict)):
                    with self.subTest(name):
                        kept = copy.deepcopy(thing)
                        is_map(thing)
                        self.assertEqual(thing, kept)


class CheckedTest(unittest.TestCase):
    def test_the_same_map(self):
        for name, net in right_maps().items():
            with self.subTest(name):
                kept = copy.deepcopy(net)
                told = checked(net)
                self.assertEqual(told, kept)
                self.assertEqual(net, kept)
                self.assertIs(is_map(told), True)

    def test_new_with_a_new_list_of_roads(self):
        for name, net in right_maps().items():
            with self.subTest(name):
                kept = copy.deepcopy(net)
                told = checked(net)
                self.assertIsNot(told, net)
                self.assertIsNot(told[1], net[1])
                self.assertIsNot(checked(net)[1], told[1])
                told[1].append("one more")
                self.assertEqual(net, kept)
                net[1].clear()
                self.assertEqual(told, (kept[0], kept[1] + ["one more"]))

    def test_no_maps_are_refused(self):
        for name, thing in no_maps().items():
            with self.subTest(name):
                with self.assertRaises(NoMap):
                    checked(thing)

    def test_what_is_refused_stays(self):
        for name, thing in no_maps().items():
            if isinstance(thing, (tuple, list, dict)):
                with self.subTest(name):
                    kept = copy.deepcopy(thing)
                    with self.assertRaises(NoMap):
                        checked(thing)
                    self.assertEqual(thing, kept)


class TurnedTest(unittest.TestCase):
    def test_each_road_the_other_way(self):
        net = (4, [(0, 1, 5, 2), (3, 2, None, 0), (0, 1, 5, 2), (1, 0, 0, MOST), (2, 3, MOST, 9)])
        self.assertEqual(
            turned(net), (4, [(1, 0, 5, 2), (2, 3, None, 0), (1, 0, 5, 2), (0, 1, 0, MOST), (3, 2, MOST, 9)]))

    def test_turned_maps_road_by_road(self):
        for name, net in right_maps().items():
            with self.subTest(name):
                told = turned(net)
                self.assertIs(is_map(told), True)
                self.assertEqual(told[0], net[0])
                self.assertEqual(len(told[1]), len(net[1]))
                for road, back in zip(net[1], told[1]):
                    self.assertEqual((back[1], back[0], back[2], back[3]), road)

    def test_turned_twice_is_the_same(self):
        for name, net in right_maps().items():
            with self.subTest(name):
                self.assertEqual(turned(turned(net)), net)

    def test_what_is_handed_in_stays_and_what_is_told_is_new(self):
        for name, net in right_maps().items():
            with self.subTest(name):
                kept = copy.deepcopy(net)
                told = turned(net)
                again = turned(net)
                self.assertEqual(net, kept)
                self.assertIsNot(told[1], net[1])
                self.assertIsNot(told[1], again[1])
                told[1].append("one more")
                self.assertEqual(net, kept)
                net[1].clear()
                self.assertEqual(turned(again), kept)


if __name__ == "__main__":
    unittest.main()
