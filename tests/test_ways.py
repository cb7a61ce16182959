import copy
import itertools
import unittest

from nodeladder.errors import NoWay
from nodeladder.ways import places_of, walked

MOST = 10 ** 60 - 1

# Two roads from 0 to 1, a ring over 0, 1, 2, a shut road and a long one to 3.
NET = (4, [(0, 1, 5, 1), (1, 2, 0, 0), (2, 0, 7, 3), (0, 1, 4, 9), (1, 3, None, 1), (2, 3, MOST, 0), (1, 0, 1, 1)])


def own_places(net, start, roads):
    """The places of a way as point 6 tells them, None where it is no way."""
    places = [start]
    for number in roads:
        if number not in range(len(net[1])):
            return None
        road = net[1][number]
        if road[0] != places[-1] or road[2] is None:
            return None
        places.append(road[1])
    return places


class WaysTest(unittest.TestCase):
    def assert_way(self, start, roads, places, cost, net=NET):
        self.assertEqual(places_of(net, start, roads), places)
        self.assertEqual(walked(net, start, roads), (places[-1], cost))

    def assert_no_way(self, start, roads, net=NET):
        for asked in (walked, places_of):
            with self.subTest(asked.__name__, start=start, roads=roads):
                with self.assertRaises(NoWay):
                    asked(net, start, roads)

    def test_no_road_from_each_place(self):
        for net in (NET, (1, []), (16, []), (2, [(0, 1, None, 0)])):
            for place in range(net[0]):
                with self.subTest(net=net, place=place):
                    self.assert_way(place, [], [place], (0, 0), net)

    def test_one_road(self):
        self.assert_way(0, [0], [0, 1], (5, 1))
        self.assert_way(0, [3], [0, 1], (4, 1))
        self.assert_way(1, [1], [1, 2], (0, 1))
        self.assert_way(2, [5], [2, 3], (MOST, 1))

    def test_several_roads(self):
        self.assert_way(0, [0, 1], [0, 1, 2], (5, 2))
        self.assert_way(0, [3, 1, 5], [0, 1, 2, 3], (4 + MOST, 3))

    def test_coming_to_a_place_again(self):
        self.assert_way(0, [0, 1, 2], [0, 1, 2, 0], (12, 3))
        self.assert_way(0, [3, 6, 0, 1, 2, 3], [0, 1, 0, 1, 2, 0, 1], (4 + 1 + 5 + 0 + 7 + 4, 6))
        self.assert_way(1, [6, 0] * 100, [1, 0] * 100 + [1], (600, 200))

    def test_the_answer_is_a_tuple_with_a_tuple(self):
        for roads in ([], [0], [0, 1]):
            told = walked(NET, 0, roads)
            self.assertIsInstance(told, tuple)
            self.assertIsInstance(told[1], tuple)

    def test_a_road_that_does_not_lead_on(self):
        self.assert_no_way(1, [0])
        self.assert_no_way(3, [5])
        self.assert_no_way(2, [0, 1, 2])
        self.assert_no_way(0, [0, 2, 0])
        self.assert_no_way(0, [0, 0])
        self.assert_no_way(0, [0, 1, 5, 5])

    def test_a_road_walked_backwards(self):
        self.assert_no_way(2, [1])
        self.assert_no_way(3, [5])

    def test_a_shut_road(self):
        net = (3, [(0, 1, 1, 1), (1, 2, None, 1), (2, 0, 1, 1), (0, 1, None, 1), (1, 2, 1, 1)])
        self.assert_way(0, [0, 4, 2], [0, 1, 2, 0], (3, 3), net)
        self.assert_no_way(0, [3], net)
        self.assert_no_way(0, [3, 4, 2], net)
        self.assert_no_way(0, [0, 1, 2], net)
        self.assert_no_way(2, [2, 0, 1], net)

    def test_numbers_of_no_road(self):
        # Each of these below 0 would, counted from the end, be a road that leads on.
        self.assert_no_way(0, [-7])
        self.assert_no_way(1, [-6])
        self.assert_no_way(0, [-7, 1])
        self.assert_no_way(0, [0, -6, 2])
        self.assert_no_way(0, [0, 1, -5])
        for number in (-8, -1, 7, 8, 10 ** 60, -10 ** 60):
            self.assert_no_way(0, [number])
            self.assert_no_way(0, [number, 1, 2])
            self.assert_no_way(0, [0, number, 2])
            self.assert_no_way(0, [0, 1, number])
        self.assert_no_way(0, [0], (1, []))
        self.assert_no_way(0, [-1], (1, []))

    def test_a_truth_is_no_number_of_a_road(self):
        self.assert_no_way(0, [False])
        self.assert_no_way(1, [True])
        self.assert_no_way(0, [0, True])

    def test_every_short_list_of_numbers(self):
        for length in range(4):
            for numbers in itertools.product(range(-7, 9), repeat=length):
                roads = list(numbers)
                for start in range(4):
                    places = own_places(NET, start, roads)
                    if places is None:
                        for asked in (walked, places_of):
                            with self.assertRaises(NoWay, msg=(asked.__name__, start, roads)):
                                asked(NET, start, roads)
                    else:
                        cost = (sum(NET[1][number][2] for number in roads), len(roads))
                        self.assert_way(start, roads, places, cost)

    def test_what_is_handed_in_stays(self):
        for start, roads in ((0, []), (0, [0, 1, 2]), (0, [0, 4]), (1, [-6]), (0, [0, 1, 7])):
            for asked in (walked, places_of):
                with self.subTest(asked.__name__, start=start, roads=roads):
                    net = copy.deepcopy(NET)
                    handed = list(roads)
                    try:
                        asked(net, start, handed)
                    except NoWay:
                        pass
                    self.assertEqual(net, NET)
                    self.assertEqual(handed, roads)

    def test_what_is_told_is_new(self):
        for start, roads in ((0, []), (0, [0, 1, 2]), (1, [1, 5])):
            with self.subTest(start=start, roads=roads):
                handed = list(roads)
                told = places_of(NET, start, handed)
                kept = list(told)
                self.assertIsNot(places_of(NET, start, handed), told)
                told.append(9)
                self.assertEqual(handed, roads)
                self.assertEqual(places_of(NET, start, handed), kept)


if __name__ == "__main__":
    unittest.main()
