import copy
import unittest

from helper import MOST, beyond_map, cost_table, every_map, least_of, small_maps, spoil, told_maps, ways_from
from nodeladder.maps import turned
from nodeladder.search import are_right, costs_from, costs_to, last_roads
from nodeladder.ways import walked


class CostsTest(unittest.TestCase):
    def test_one_map(self):
        net = (5, [(0, 1, 5, 1), (1, 2, 0, 0), (0, 2, 7, 3), (2, 3, None, 9), (3, 0, 1, 1), (0, 1, 4, 1)])
        self.assertEqual(costs_from(net, 0), [(0, 0), (4, 1), (4, 2), None, None])
        self.assertEqual(costs_from(net, 2), [None, None, (0, 0), None, None])
        self.assertEqual(costs_from(net, 3), [(1, 1), (5, 2), (5, 3), (0, 0), None])
        self.assertEqual(costs_to(net, 0), [(0, 0), None, None, (1, 1), None])
        self.assertEqual(costs_to(net, 2), [(4, 2), (0, 1), (0, 0), (5, 3), None])
        self.assertEqual(costs_to(net, 4), [None, None, None, None, (0, 0)])

    def test_one_place_and_no_road(self):
        self.assertEqual(costs_from((1, []), 0), [(0, 0)])
        self.assertEqual(costs_to((1, []), 0), [(0, 0)])
        for many in (2, 3, 16):
            for place in range(many):
                alone = [(0, 0) if other == place else None for other in range(many)]
                for roads in ([], [(k, (k + 1) % many, None, 1) for k in range(many)]):
                    with self.subTest(many=many, place=place, roads=roads):
                        self.assertEqual(costs_from((many, roads), place), alone)
                        self.assertEqual(costs_to((many, roads), place), alone)

    def test_of_equal_lengths_the_lesser_count(self):
        net = told_maps()["equal lengths, unlike counts"]
        self.assertEqual(costs_from(net, 0), [(0, 0), (2, 1), (4, 2), (3, 1), (6, 2)])
        self.assertEqual(costs_to(net, 4), [(6, 2), (4, 2), (2, 1), (3, 1), (0, 0)])

    def test_the_lesser_length_over_more_roads(self):
        net = (4, [(0, 3, 10, 1), (0, 1, 3, 1), (1, 2, 3, 1), (2, 3, 3, 1)])
        self.assertEqual(costs_from(net, 0), [(0, 0), (3, 1), (6, 2), (9, 3)])
        self.assertEqual(costs_to(net, 3), [(9, 3), (6, 2), (3, 1), (0, 0)])

    def test_roads_of_length_0_count(self):
        net = told_maps()["a ring of sixteen, length 0"]
        for place in range(16):
            self.assertEqual(costs_from(net, place), [(0, (other - place) % 16) for other in range(16)])
            self.assertEqual(costs_to(net, place), [(0, (place - other) % 16) for other in range(16)])

    def test_the_greatest_lengths(self):
        net = told_maps()["a row of sixteen of the greatest length"]
        self.assertEqual(costs_from(net, 0), [(k * MOST, k) for k in range(16)])
        self.assertEqual(costs_to(net, 15), [((15 - k) * MOST, 15 - k) for k in range(16)])
        near = told_maps()["lengths that differ by 1 near the greatest"]
        self.assertEqual(costs_from((4, near[1][:4]), 0), [(0, 0), (MOST, 1), (MOST, 1), (2 * MOST - 1, 2)])
        self.assertEqual(costs_from(near, 0)[3], (MOST, 1))

    def test_roads_written_in_any_order(self):
        row = [(k, k + 1, k, 1) for k in range(15)]
        for roads in (row, row[::-1], row[8:] + row[:8], row[::2] + row[1::2]):
            with self.subTest(roads):
                self.assertEqual(costs_from((16, roads), 0), [(k * (k - 1) // 2, k) for k in range(16)])
                self.assertEqual(costs_to((16, roads), 15), [(105 - k * (k - 1) // 2, 15 - k) for k in range(16)])

    def test_against_a_table_of_another_make(self):
        for net in every_map():
            table = cost_table(net)
            for place in range(net[0]):
                with self.subTest(net=net, place=place):
                    self.assertEqual(costs_from(net, place), table[place])
                    self.assertEqual(costs_to(net, place), [row[place] for row in table])

    def test_against_all_ways(self):
        for net in small_maps(150):
            for start in range(net[0]):
                ways = ways_from(net, start)
                costs = [least_of(cost for places, cost in ways if places[-1] == goal) for goal in range(net[0])]
                self.assertEqual(costs_from(net, start), costs, (net, start))
                self.assertEqual(costs_to(turned(net), start), costs, (net, start))

    def test_somewhat_beyond_the_bounds(self):
        net = beyond_map()
        table = cost_table(net)
        for place in range(net[0]):
            prices = [row[place] for row in table]
            self.assertEqual(costs_from(net, place), table[place])
            self.assertEqual(costs_to(net, place), prices)
            self.assertIs(are_right(net, place, prices), True)

    def test_each_cost_is_a_tuple(self):
        for net in told_maps().values():
            for cost in costs_from(net, 0) + costs_to(net, 0):
                self.assertTrue(cost is None or isinstance(cost, tuple))


class LastRoadsTest(unittest.TestCase):
    def test_one_map(self):
        net = (5, [(0, 1, 5, 1), (1, 2, 0, 0), (0, 2, 4, 3), (2, 3, None, 9), (3, 0, 1, 1), (0, 1, 4, 1), (1, 2, 0, 5)])
        self.assertEqual(last_roads(net, 0), [None, 5, 2, None, None])
        self.assertEqual(last_roads(net, 1), [None, None, 1, None, None])
        self.assertEqual(last_roads(net, 3), [4, 5, 2, None, None])
        self.assertEqual(last_roads(net, 4), [None] * 5)

    def test_the_least_number_among_roads_alike(self):
        self.assertEqual(last_roads((2, [(1, 0, 5, 1), (0, 1, 5, 1), (0, 1, 5, 1), (0, 1, 5, 1)]), 0), [None, 1])
        self.assertEqual(last_roads((2, [(0, 1, None, 1), (0, 1, 6, 1), (0, 1, 5, 2), (0, 1, 5, 1)]), 0), [None, 2])

    def test_the_least_number_among_roads_from_unlike_places(self):
        roads = [(0, 1, 1, 1), (0, 2, 1, 1), (2, 3, 1, 1), (1, 3, 1, 1)]
        self.assertEqual(last_roads((4, roads), 0), [None, 0, 1, 2])
        self.assertEqual(last_roads((4, roads[::-1]), 0), [None, 3, 2, 0])
        self.assertEqual(last_roads((4, [(1, 3, 2, 1), (2, 3, 2, 1), (0, 1, 2, 1), (0, 2, 1, 1)]), 0), [None, 2, 3, 1])

    def test_of_equal_lengths_the_lesser_count(self):
        self.assertEqual(last_roads((3, [(1, 2, 0, 1), (0, 1, 3, 1), (0, 2, 3, 1)]), 0), [None, 1, 2])

    def test_a_ring_of_length_0_does_not_lead_to_the_start(self):
        self.assertEqual(last_roads((3, [(2, 0, 0, 1), (1, 2, 0, 1), (0, 1, 0, 1)]), 0), [None, 2, 1])

    def test_no_road_and_no_way(self):
        self.assertEqual(last_roads((1, []), 0), [None])
        self.assertEqual(last_roads((16, []), 7), [None] * 16)
        self.assertEqual(last_roads(told_maps()["shut roads only"], 1), [None] * 3)
        # The roads from 1 and 2 lead to one another alone: from 0 there is no way to them.
        self.assertEqual(last_roads((3, [(1, 2, 0, 1), (2, 1, 0, 1), (1, 0, 0, 1)]), 0), [None] * 3)

    def test_the_least_number_by_the_rule(self):
        for net in every_map():
            table = cost_table(net)
            for start in range(net[0]):
                right = []
                for place in range(net[0]):
                    ends = [number for number, (one, other, length, width) in enumerate(net[1])
                            if other == place and length is not None and table[start][one] is not None
                            and (table[start][one][0] + length, table[start][one][1] + 1) == table[start][place]]
                    right.append(min(ends, default=None))
                self.assertEqual(last_roads(net, start), right, (net, start))

    def test_walking_back(self):
        for net in every_map():
            for start in range(net[0]):
                last = last_roads(net, start)
                for place, cost in enumerate(cost_table(net)[start]):
                    self.assertEqual(last[place] is None, cost is None or place == start, (net, start, place))
                    if cost is None:
                        continue
                    here, roads = place, []
                    while here != start and len(roads) < 16:
                        roads.insert(0, last[here])
                        here = net[1][last[here]][0]
                    self.assertEqual(walked(net, start, roads), (place, cost), (net, start, place))


def changed_prices(prices):
    """These prices with one changed, in each way that a price may be changed here."""
    for place, price in enumerate(prices):
        others = {None, (0, 0)} | set(prices)
        if price is not None:
            others |= {(price[0] + 1, price[1]), (price[0], price[1] + 1),
                       (price[0] - 1, price[1]), (price[0], price[1] - 1)}
        for other in sorted(others - {price}, key=repr):
            yield prices[:place] + [other] + prices[place + 1:]


class AreRightTest(unittest.TestCase):
    def test_one_map(self):
        net = (4, [(0, 1, 5, 1), (1, 2, 0, 0), (0, 2, 7, 3), (2, 3, None, 9), (3, 0, 1, 1)])
        self.assertIs(are_right(net, 2, [(5, 2), (0, 1), (0, 0), (6, 3)]), True)
        self.assertIs(are_right(net, 2, [(7, 1), (0, 1), (0, 0), (8, 2)]), False)
        self.assertIs(are_right(net, 2, [(5, 2), (0, 1), (0, 0), None]), False)
        self.assertIs(are_right(net, 3, [None, None, None, (0, 0)]), True)
        self.assertIs(are_right(net, 3, [(0, 0), None, None, (0, 0)]), False)
        self.assertIs(are_right(net, 3, [None, None, None, None]), False)

    def test_one_place(self):
        self.assertIs(are_right((1, []), 0, [(0, 0)]), True)
        for price in (None, (0, 1), (1, 0), (1, 1)):
            self.assertIs(are_right((1, []), 0, [price]), False)

    def test_the_costs_are_right(self):
        for net in every_map():
            table = cost_table(net)
            for goal in range(net[0]):
                self.assertIs(are_right(net, goal, [row[goal] for row in table]), True, (net, goal))

    def test_the_costs_with_one_price_changed_are_not(self):
        for net in list(told_maps().values()) + small_maps(60):
            table = cost_table(net)
            for goal in range(net[0]):
                for prices in changed_prices([row[goal] for row in table]):
                    self.assertIs(are_right(net, goal, prices), False, (net, goal, prices))

    def test_the_costs_for_another_goal_are_not(self):
        for net in told_maps().values():
            table = cost_table(net)
            for goal in range(net[0]):
                for other in range(net[0]):
                    prices = [row[other] for row in table]
                    self.assertIs(are_right(net, goal, prices), other == goal, (net, goal, other))

    def test_the_costs_from_the_goal_are_not(self):
        net = (3, [(0, 1, 1, 1), (1, 2, 2, 1), (2, 0, 4, 1)])
        self.assertIs(are_right(net, 0, [(0, 0), (6, 2), (4, 1)]), True)
        self.assertIs(are_right(net, 0, [(0, 0), (1, 1), (3, 2)]), False)

    def test_a_ring_of_length_0_that_holds_among_itself_alone(self):
        # No way leads from 1 and 2 to 0; each length there would be right by the other one's.
        ring = (3, [(1, 2, 0, 1), (2, 1, 0, 1), (0, 1, 3, 1)])
        self.assertIs(are_right(ring, 0, [(0, 0), None, None]), True)
        for length in (0, 1, 5, MOST):
            for one in range(4):
                for other in range(4):
                    self.assertIs(are_right(ring, 0, [(0, 0), (length, one), (length, other)]), False)

    def test_a_ring_of_length_0_with_a_way_out(self):
        ring = (3, [(1, 2, 0, 1), (2, 1, 0, 1), (1, 0, 9, 1)])
        self.assertIs(are_right(ring, 0, [(0, 0), (9, 1), (9, 2)]), True)
        for length in (0, 1, 8, 9, 10):
            for one in range(4):
                for other in range(4):
                    right = (length, one, other) == (9, 1, 2)
                    self.assertIs(are_right(ring, 0, [(0, 0), (length, one), (length, other)]), right)

    def test_every_list_of_small_prices(self):
        some = [None] + [(length, count) for length in range(3) for count in range(3)]
        for roads in ([], [(1, 0, 1, 1), (2, 1, 1, 1)], [(1, 0, 2, 1), (2, 1, 0, 1), (1, 2, 0, 1)],
                      [(1, 2, 0, 1), (2, 1, 0, 1), (0, 1, 0, 1)], [(1, 0, None, 1), (2, 0, 0, 1), (2, 1, 0, 1)]):
            costs = [row[0] for row in cost_table((3, roads))]
            for one in some:
                for other in some:
                    for goal in ((0, 0), (0, 1), None):
                        prices = [goal, one, other]
                        self.assertIs(are_right((3, roads), 0, prices), prices == costs, (roads, prices))

    def test_a_price_too_few_or_too_many(self):
        net = (3, [(1, 0, 1, 1)])
        self.assertIs(are_right(net, 0, [(0, 0), (1, 1), None]), True)
        self.assertIs(are_right(net, 0, [(0, 0), (1, 1)]), False)
        self.assertIs(are_right(net, 0, [(0, 0), (1, 1), None, None]), False)
        self.assertIs(are_right(net, 0, []), False)


class HandedInTest(unittest.TestCase):
    def test_what_is_handed_in_stays_and_what_is_told_is_new(self):
        for name, net in told_maps().items():
            for asked in (costs_from, costs_to, last_roads):
                with self.subTest(name, asked=asked.__name__):
                    handed = copy.deepcopy(net)
                    told = asked(handed, 0)
                    kept = list(told)
                    self.assertEqual(handed, net)
                    self.assertIsInstance(told, list)
                    spoil(told)
                    again = asked(handed, 0)
                    self.assertIsNot(again, told)
                    self.assertEqual(again, kept)
                    spoil(handed)
                    self.assertEqual(again, kept)

    def test_prices_stay(self):
        for name, net in told_maps().items():
            costs = costs_to(net, 0)
            for prices in (costs, costs[:-1] + [(1, 1)], [None] * net[0]):
                with self.subTest(name, prices=prices):
                    handed, kept = copy.deepcopy(net), list(prices)
                    are_right(handed, 0, prices)
                    self.assertEqual(handed, net)
                    self.assertEqual(prices, kept)

    def test_the_names_of_what_is_handed_in(self):
        net = (2, [(0, 1, 5, 1)])
        self.assertEqual(costs_from(net=net, start=0), [(0, 0), (5, 1)])
        self.assertEqual(costs_to(net=net, goal=1), [(5, 1), (0, 0)])
        self.assertEqual(last_roads(net=net, start=0), [None, 0])
        self.assertIs(are_right(net=net, goal=1, prices=[(5, 1), (0, 0)]), True)


if __name__ == "__main__":
    unittest.main()
