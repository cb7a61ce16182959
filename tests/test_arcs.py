import copy
import itertools
import unittest

from helper import (MOST, beyond_map, large_maps, made_map, orders_of, own_arcs_by_tables, small_maps, spoil,
                    told_maps, ways_from)
from nodeladder.arcs import arc_costs, middles


def own_arcs(net, order):
    """The arcs and their costs, by all ways, as point 11 tells them."""
    costs = {}
    for u in range(net[0]):
        for places, cost in ways_from(net, u)[1:]:
            w = places[-1]
            if all(order.index(v) < min(order.index(u), order.index(w)) for v in places[1:-1]):
                costs[u, w] = min(costs.get((u, w), cost), cost)
    return costs


def own_middles(net, order, costs):
    """The middles of arcs with these costs, as point 12 tells them."""
    told = {}
    for (u, w), cost in costs.items():
        below = order[:min(order.index(u), order.index(w))]
        over = [v for v in below if (u, v) in costs and (v, w) in costs
                and tuple(map(sum, zip(costs[u, v], costs[v, w]))) == cost]
        is_road = any(road[2] is not None and road[:2] == (u, w) and (road[2], 1) == cost for road in net[1])
        told[u, w] = None if is_road else over[0]
    return told


class ArcsTest(unittest.TestCase):
    def assert_arcs(self, net, order, right):
        """right is a dict from arcs to tuples (cost, middle)."""
        self.assertEqual(arc_costs(net, order), {pair: cost for pair, (cost, middle) in right.items()})
        self.assertEqual(middles(net, order), {pair: middle for pair, (cost, middle) in right.items()})

    def assert_by_rule(self, net, order, costs):
        self.assertEqual(arc_costs(net, order), costs, (net, order))
        self.assertEqual(middles(net, order), own_middles(net, order, costs), (net, order))

    def test_no_road(self):
        self.assert_arcs((1, []), [0], {})
        self.assert_arcs((3, []), [2, 0, 1], {})
        self.assert_arcs((16, []), list(range(16)), {})
        for order in itertools.permutations(range(3)):
            self.assert_arcs(told_maps()["shut roads only"], list(order), {})

    def test_a_row_in_each_order(self):
        net = (3, [(0, 1, 5, 1), (1, 2, 7, 1)])
        roads = {(0, 1): ((5, 1), None), (1, 2): ((7, 1), None)}
        for order in itertools.permutations(range(3)):
            right = dict(roads)
            if order[0] == 1:
                right[0, 2] = ((12, 2), 1)
            self.assert_arcs(net, list(order), right)

    def test_a_place_between_is_below_both(self):
        net = (3, [(0, 1, 5, 1), (1, 2, 7, 1)])
        self.assertNotIn((0, 2), arc_costs(net, [0, 1, 2]))
        self.assertNotIn((0, 2), arc_costs(net, [2, 1, 0]))
        self.assertIn((0, 2), arc_costs(net, [1, 0, 2]))
        self.assertIn((0, 2), arc_costs(net, [1, 2, 0]))

    def test_a_road_that_costs_more_less_or_the_same(self):
        row = [(0, 1, 5, 1), (1, 2, 7, 1)]
        roads = {(0, 1): ((5, 1), None), (1, 2): ((7, 1), None)}
        # A road of the same length has the lesser count.
        for length, right in ((13, ((12, 2), 1)), (12, ((12, 1), None)), (11, ((11, 1), None)), (None, ((12, 2), 1))):
            with self.subTest(length):
                self.assert_arcs((3, row + [(0, 2, length, 1)]), [1, 0, 2], {**roads, (0, 2): right})

    def test_the_cost_of_an_arc_may_be_more_than_the_cost_from_place_to_place(self):
        net = (3, [(0, 1, 5, 1), (1, 2, 7, 1), (0, 2, 99, 1)])
        roads = {(0, 1): ((5, 1), None), (1, 2): ((7, 1), None), (0, 2): ((99, 1), None)}
        self.assert_arcs(net, [0, 1, 2], roads)

    def test_several_roads(self):
        net = (2, [(0, 1, 5, 1), (0, 1, 4, 1), (0, 1, None, 1), (0, 1, 6, 9), (1, 0, 3, 1), (1, 0, 3, 1)])
        for order in ([0, 1], [1, 0]):
            self.assert_arcs(net, order, {(0, 1): ((4, 1), None), (1, 0): ((3, 1), None)})

    def test_roads_of_length_0(self):
        net = (4, [(0, 1, 0, 1), (1, 2, 0, 1), (2, 3, 0, 1), (3, 0, 0, 1)])
        roads = {(k, (k + 1) % 4): ((0, 1), None) for k in range(4)}
        self.assert_arcs(net, [0, 1, 2, 3], {**roads, (3, 1): ((0, 2), 0), (3, 2): ((0, 3), 1)})
        self.assert_arcs(net, [0, 2, 1, 3], {**roads, (3, 1): ((0, 2), 0), (1, 3): ((0, 2), 2)})

    def test_the_lowest_middle_by_the_order_not_by_the_number(self):
        net = (4, [(0, 1, 1, 1), (1, 3, 1, 1), (0, 2, 1, 1), (2, 3, 1, 1)])
        for order, middle in (([1, 2, 0, 3], 1), ([2, 1, 0, 3], 2), ([2, 1, 3, 0], 2), ([1, 2, 3, 0], 1),
                              ([2, 0, 1, 3], 2), ([1, 0, 2, 3], 1)):
            with self.subTest(order):
                self.assertEqual(arc_costs(net, order)[0, 3], (2, 2))
                self.assertEqual(middles(net, order)[0, 3], middle)

    def test_a_dearer_lower_place_is_no_middle(self):
        net = (4, [(0, 1, 2, 1), (1, 3, 1, 1), (0, 2, 1, 1), (2, 3, 1, 1)])
        self.assertEqual(middles(net, [1, 2, 0, 3])[0, 3], 2)
        self.assertEqual(middles(net, [2, 1, 0, 3])[0, 3], 2)

    def test_the_lowest_of_several_on_one_way(self):
        # The way over 1 and 2: an arc joins 0 to the higher one of both over the lower one.
        net = (4, [(0, 1, 1, 1), (1, 2, 1, 1), (2, 3, 1, 1)])
        for order, between, middle in (([1, 2, 0, 3], (0, 2), 2), ([2, 1, 0, 3], (1, 3), 1)):
            with self.subTest(order):
                told = middles(net, order)
                self.assertEqual(told[between], 3 - middle)
                self.assertEqual(told[0, 3], middle)
                self.assertEqual(arc_costs(net, order)[0, 3], (3, 3))

    def test_the_greatest_lengths(self):
        net = told_maps()["a row of sixteen of the greatest length"]
        inner = list(range(1, 15)) + [0, 15]
        self.assertEqual(arc_costs(net, inner)[0, 15], (15 * MOST, 15))
        self.assertEqual(middles(net, inner)[0, 15], 14)

    def test_each_order_of_maps_of_up_to_four_places(self):
        for seed in range(60):
            net = made_map(500 + seed, 1 + seed % 4, 9)
            for order in orders_of(net, seed):
                self.assert_by_rule(net, order, own_arcs(net, order))

    def test_each_order_of_maps_at_the_edges(self):
        for net in told_maps().values():
            for order in orders_of(net, 7):
                self.assert_by_rule(net, order, own_arcs_by_tables(net, order))

    def test_many_small_maps(self):
        for seed, net in enumerate(small_maps(120, 6, 12)):
            for order in orders_of(net, seed):
                self.assert_by_rule(net, order, own_arcs(net, order))

    def test_some_large_maps(self):
        for seed, net in enumerate(large_maps(4) + [beyond_map()]):
            for order in orders_of(net, seed)[1:3]:
                self.assert_by_rule(net, order, own_arcs_by_tables(net, order))

    def test_both_rules_of_the_tests_are_one(self):
        for seed, net in enumerate(small_maps(40)):
            for order in orders_of(net, seed)[:3]:
                self.assertEqual(own_arcs(net, order), own_arcs_by_tables(net, order))

    def test_keys_and_costs_are_tuples(self):
        for seed, net in enumerate(small_maps(40)):
            for order in orders_of(net, seed)[:3]:
                for pair, cost in arc_costs(net, order).items():
                    self.assertIsInstance(pair, tuple)
                    self.assertIsInstance(cost, tuple)
                    self.assertNotEqual(pair[0], pair[1])

    def test_what_is_handed_in_stays_and_what_is_told_is_new(self):
        for name, net in told_maps().items():
            for asked in (arc_costs, middles):
                with self.subTest(name, asked=asked.__name__):
                    order = list(range(net[0]))[::-1]
                    handed, handed_order = copy.deepcopy(net), list(order)
                    told = asked(handed, handed_order)
                    kept = dict(told)
                    self.assertIs(told.__class__, dict)
                    self.assertEqual((handed, handed_order), (net, order))
                    spoil(told)
                    again = asked(handed, handed_order)
                    self.assertEqual(again, kept)
                    spoil((handed, handed_order))
                    self.assertEqual(again, kept)

    def test_the_names_of_what_is_handed_in(self):
        net = (2, [(0, 1, 5, 1)])
        self.assertEqual(arc_costs(net=net, order=[0, 1]), {(0, 1): (5, 1)})
        self.assertEqual(middles(net=net, order=[0, 1]), {(0, 1): None})


if __name__ == "__main__":
    unittest.main()
