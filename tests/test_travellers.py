import copy
import itertools
import unittest

from helper import MOST, beyond_map, every_map, lists_within, spoil, told_maps
from nodeladder.maps import is_map
from nodeladder.travellers import Even, Pair, Short, Traveller, Wide, seen

LENGTHS = (None, 0, 1, 4, 5, 6, MOST - 1, MOST)
WIDTHS = (0, 1, 6, 7, 8, MOST - 1, MOST)
ROADS = [(0, 1, length, width) for length in LENGTHS for width in WIDTHS]


class Longer(Traveller):
    """A traveller of the tests' own, to whom each open road is longer by so much."""

    def __init__(self, more):
        self.more = more

    def told(self, road):
        return None if road[2] is None else road[2] + self.more


def one_of_each():
    return [Traveller(), Wide(7), Wide(0), Wide(MOST), Short(5), Short(0), Short(MOST), Even(), Pair(Even(), Wide(7))]


class PlainTest(unittest.TestCase):
    def test_the_length_itself(self):
        for road in ROADS:
            with self.subTest(road):
                self.assertEqual(Traveller().told(road), road[2])


class WideTest(unittest.TestCase):
    def test_the_same_one_more_and_one_less(self):
        for length in (0, 5, MOST):
            with self.subTest(length):
                self.assertEqual(Wide(7).told((0, 1, length, 7)), length)
                self.assertIsNone(Wide(8).told((0, 1, length, 7)))
                self.assertEqual(Wide(6).told((0, 1, length, 7)), length)

    def test_the_edges(self):
        self.assertEqual(Wide(0).told((0, 1, 5, 0)), 5)
        self.assertIsNone(Wide(1).told((0, 1, 5, 0)))
        self.assertEqual(Wide(MOST).told((0, 1, 5, MOST)), 5)
        self.assertIsNone(Wide(MOST).told((0, 1, 5, MOST - 1)))
        self.assertEqual(Wide(0).told((0, 1, MOST, MOST)), MOST)

    def test_the_length_does_not_count(self):
        self.assertEqual(Wide(7).told((0, 1, 1, 7)), 1)
        self.assertIsNone(Wide(7).told((0, 1, 9, 6)))

    def test_every_road(self):
        for width, road in itertools.product(WIDTHS, ROADS):
            with self.subTest(width=width, road=road):
                self.assertEqual(Wide(width).told(road), road[2] if road[3] >= width else None)


class ShortTest(unittest.TestCase):
    def test_the_same_one_more_and_one_less(self):
        for width in (0, 3, MOST):
            with self.subTest(width):
                self.assertEqual(Short(5).told((0, 1, 5, width)), 5)
                self.assertEqual(Short(6).told((0, 1, 5, width)), 5)
                self.assertIsNone(Short(4).told((0, 1, 5, width)))

    def test_the_edges(self):
        self.assertEqual(Short(0).told((0, 1, 0, 5)), 0)
        self.assertIsNone(Short(0).told((0, 1, 1, 5)))
        self.assertEqual(Short(MOST).told((0, 1, MOST, 5)), MOST)
        self.assertIsNone(Short(MOST - 1).told((0, 1, MOST, 5)))

    def test_every_road(self):
        for length, road in itertools.product(LENGTHS[1:], ROADS):
            with self.subTest(length=length, road=road):
                right = road[2] is not None and road[2] <= length
                self.assertEqual(Short(length).told(road), road[2] if right else None)


class EvenTest(unittest.TestCase):
    def test_every_road(self):
        for road in ROADS:
            with self.subTest(road):
                told = Even().told(road)
                if road[2] is None:
                    self.assertIsNone(told)
                else:
                    self.assertEqual(told, 0)
                    self.assertIs(told.__class__, int)


class PairTest(unittest.TestCase):
    def test_the_second_is_told_the_length_of_the_first(self):
        self.assertEqual(Pair(Even(), Short(0)).told((0, 1, 5, 7)), 0)
        self.assertIsNone(Pair(Short(0), Even()).told((0, 1, 5, 7)))
        self.assertEqual(Pair(Longer(2), Short(5)).told((0, 1, 3, 7)), 5)
        self.assertIsNone(Pair(Longer(2), Short(5)).told((0, 1, 4, 7)))
        self.assertEqual(Pair(Short(5), Longer(2)).told((0, 1, 4, 7)), 6)
        self.assertEqual(Pair(Longer(2), Even()).told((0, 1, 4, 7)), 0)
        self.assertEqual(Pair(Even(), Longer(2)).told((0, 1, 4, 7)), 2)

    def test_the_width_stays_the_roads_own(self):
        self.assertEqual(Pair(Even(), Wide(7)).told((0, 1, 5, 7)), 0)
        self.assertIsNone(Pair(Even(), Wide(8)).told((0, 1, 5, 7)))
        self.assertEqual(Pair(Wide(7), Short(5)).told((0, 1, 5, 7)), 5)
        self.assertIsNone(Pair(Wide(7), Short(5)).told((0, 1, 6, 7)))
        self.assertIsNone(Pair(Wide(7), Short(5)).told((0, 1, 5, 6)))

    def test_the_second_is_told_the_whole_road(self):
        class Asked(Traveller):
            def told(self, road):
                roads.append(road)
                return road[2]

        roads = []
        self.assertEqual(Pair(Longer(2), Asked()).told((3, 1, 5, 7)), 7)
        self.assertEqual(roads, [(3, 1, 7, 7)])

    def test_a_first_one_that_tells_none(self):
        for second in one_of_each():
            for first, road in ((Wide(8), (0, 1, 5, 7)), (Short(4), (0, 1, 5, 7)), (Traveller(), (0, 1, None, 7))):
                with self.subTest(first=first, second=second):
                    self.assertIsNone(Pair(first, second).told(road))
                    self.assertIsNone(Pair(Pair(first, Even()), second).told(road))
                    self.assertIsNone(Pair(second, Pair(first, Even())).told((0, 1, None, 7)))

    def test_behind_none_the_second_does_not_count(self):
        class Stubborn(Traveller):
            def told(self, road):
                return 3

        self.assertEqual(Pair(Even(), Stubborn()).told((0, 1, 5, 7)), 3)
        self.assertIsNone(Pair(Wide(8), Stubborn()).told((0, 1, 5, 7)))
        self.assertIsNone(Pair(Pair(Wide(8), Even()), Stubborn()).told((0, 1, 5, 7)))
        self.assertIsNone(Pair(Wide(8), Pair(Even(), Stubborn())).told((0, 1, 5, 7)))

    def test_every_pair_of_every_road(self):
        for first, second, road in itertools.product(one_of_each(), one_of_each(), ROADS):
            length = first.told(road)
            asked = None if length is None else second.told((road[0], road[1], length, road[3]))
            self.assertEqual(Pair(first, second).told(road), asked, (first, second, road))

    def test_pairs_three_deep(self):
        road = (0, 1, 5, 7)
        left = Pair(Pair(Pair(Longer(1), Short(6)), Longer(1)), Short(7))
        right = Pair(Longer(1), Pair(Short(6), Pair(Longer(1), Short(7))))
        for pair in (left, right):
            with self.subTest(pair):
                self.assertEqual(pair.told(road), 7)
                self.assertIsNone(pair.told((0, 1, 6, 7)))
                self.assertEqual(pair.told((0, 1, 0, 7)), 2)
                self.assertIsNone(pair.told((0, 1, None, 7)))
        both = Pair(Pair(Even(), Pair(Longer(3), Wide(7))), Pair(Pair(Short(3), Longer(4)), Traveller()))
        self.assertEqual(both.told(road), 7)
        self.assertIsNone(both.told((0, 1, 5, 6)))

    def test_pairs_within_pairs_in_their_order(self):
        travellers = [Longer(1), Even(), Short(1), Wide(7), Longer(4)]
        roads = [(0, 1, length, width) for length in (None, 0, 1, 2) for width in (6, 7)]
        for a, b, c, d in itertools.product(travellers, repeat=4):
            pairs = (Pair(Pair(Pair(a, b), c), d), Pair(Pair(a, Pair(b, c)), d), Pair(Pair(a, b), Pair(c, d)),
                     Pair(a, Pair(Pair(b, c), d)), Pair(a, Pair(b, Pair(c, d))))
            for road in roads:
                length = road[2]
                for traveller in (a, b, c, d):
                    length = None if length is None else traveller.told((0, 1, length, road[3]))
                self.assertEqual([pair.told(road) for pair in pairs], [length] * 5)

    def test_one_traveller_in_both_places(self):
        longer = Longer(2)
        pair = Pair(longer, longer)
        self.assertEqual(pair.told((0, 1, 5, 7)), 9)
        self.assertEqual(Pair(pair, pair).told((0, 1, 5, 7)), 13)
        self.assertEqual(pair.told((0, 1, 5, 7)), 9)

    def test_very_deep_pairs(self):
        left, right = Longer(1), Longer(1)
        for k in range(3000):
            left, right = Pair(left, Longer(1)), Pair(Longer(1), right)
        self.assertEqual(left.told((0, 1, 5, 7)), 3006)
        self.assertEqual(right.told((0, 1, 5, 7)), 3006)


class EachTravellerTest(unittest.TestCase):
    def test_each_is_a_traveller(self):
        for kind in (Wide, Short, Even, Pair):
            with self.subTest(kind):
                self.assertTrue(issubclass(kind, Traveller))
        for traveller in one_of_each():
            with self.subTest(traveller):
                self.assertIsInstance(traveller, Traveller)

    def test_none_of_the_four_is_another_one(self):
        for one, other in itertools.permutations((Wide, Short, Even, Pair), 2):
            self.assertFalse(issubclass(one, other))

    def test_a_shut_road_is_none_to_each(self):
        for traveller, width in itertools.product(one_of_each(), WIDTHS):
            with self.subTest(traveller=traveller, width=width):
                self.assertIsNone(traveller.told((0, 1, None, width)))

    def test_asked_again_it_tells_the_same(self):
        for traveller in one_of_each() + [Pair(Short(5), Pair(Even(), Wide(7)))]:
            with self.subTest(traveller):
                told = [traveller.told(road) for road in ROADS]
                self.assertEqual([traveller.told(road) for road in reversed(ROADS)], told[::-1])

    def test_the_names_of_what_is_handed_in(self):
        self.assertEqual(Wide(width=7).told((0, 1, 5, 7)), 5)
        self.assertEqual(Short(length=5).told((0, 1, 5, 7)), 5)
        self.assertEqual(Pair(second=Short(0), first=Even()).told(road=(0, 1, 5, 7)), 0)


class SeenTest(unittest.TestCase):
    def test_one_map(self):
        net = (4, [(0, 1, 5, 2), (3, 2, None, 9), (0, 1, 6, 7), (1, 0, 0, MOST), (2, 3, MOST, 7)])
        self.assertEqual(seen(net, Traveller()), net)
        self.assertEqual(
            seen(net, Wide(7)), (4, [(0, 1, None, 2), (3, 2, None, 9), (0, 1, 6, 7), (1, 0, 0, MOST), (2, 3, MOST, 7)]))
        self.assertEqual(
            seen(net, Short(5)),
            (4, [(0, 1, 5, 2), (3, 2, None, 9), (0, 1, None, 7), (1, 0, 0, MOST), (2, 3, None, 7)]))
        self.assertEqual(
            seen(net, Even()), (4, [(0, 1, 0, 2), (3, 2, None, 9), (0, 1, 0, 7), (1, 0, 0, MOST), (2, 3, 0, 7)]))
        self.assertEqual(
            seen(net, Pair(Wide(7), Short(6))),
            (4, [(0, 1, None, 2), (3, 2, None, 9), (0, 1, 6, 7), (1, 0, 0, MOST), (2, 3, None, 7)]))

    def test_maps_road_by_road(self):
        for net, traveller in itertools.product(every_map(), one_of_each()):
            told = seen(net, traveller)
            self.assertIs(is_map(told), True)
            self.assertEqual(told[0], net[0])
            self.assertEqual(len(told[1]), len(net[1]))
            for road, as_seen in zip(net[1], told[1]):
                self.assertEqual(as_seen, (road[0], road[1], traveller.told(road), road[3]))

    def test_somewhat_beyond_the_bounds(self):
        net = beyond_map()
        self.assertEqual(seen(net, Traveller()), net)
        self.assertEqual(seen(net, Short(10 ** 62)), net)
        self.assertEqual([road[2] for road in seen(net, Wide(10 ** 60))[1] if road[2] is not None],
                         [10 ** 61 + k for k in range(19)])

    def test_seen_by_a_pair_is_seen_by_one_and_then_the_other(self):
        for net in told_maps().values():
            for first, second in itertools.product(one_of_each(), repeat=2):
                self.assertEqual(seen(net, Pair(first, second)), seen(seen(net, first), second))

    def test_what_is_handed_in_stays_and_what_is_told_is_new(self):
        for name, net in told_maps().items():
            for traveller in one_of_each():
                with self.subTest(name, traveller=traveller):
                    handed = copy.deepcopy(net)
                    told = seen(handed, traveller)
                    kept = copy.deepcopy(told)
                    self.assertEqual(handed, net)
                    self.assertEqual(len(lists_within(told)), 1)
                    spoil(told)
                    self.assertEqual(handed, net)
                    again = seen(handed, traveller)
                    self.assertEqual(again, kept)
                    spoil(handed)
                    self.assertEqual(again, kept)


if __name__ == "__main__":
    unittest.main()
