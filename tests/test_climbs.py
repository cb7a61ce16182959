import unittest

from helper import (MOST, cost_table, least_of, maps_with_orders, orders_of, own_kept, small_maps, spoil, summed,
                    told_maps)
from nodeladder.climbs import climbed_from, climbing_to, tops
from nodeladder.ladders import Ladder


def over_arcs(arcs, place):
    """What is reached from a place over arcs with costs, by going over all of them until nothing changes."""
    costs, ahead = {place: (0, 0)}, None
    while costs != ahead:
        ahead = dict(costs)
        for (one, other), cost in arcs.items():
            if one in costs:
                costs[other] = least_of([costs.get(other), summed(costs[one], cost)])
    return costs


def own_climbed(kept, order, place):
    return over_arcs({(u, w): cost for (u, w), cost in kept.items() if order.index(u) < order.index(w)}, place)


def own_climbing(kept, order, place):
    return over_arcs({(w, u): cost for (u, w), cost in kept.items() if order.index(u) > order.index(w)}, place)


def own_tops(kept, order, start, goal):
    ahead, behind = own_climbed(kept, order, start), own_climbing(kept, order, goal)
    sums = {place: summed(ahead[place], behind[place]) for place in ahead if place in behind}
    return [place for place in sorted(sums) if sums[place] == min(sums.values())]


class ClimbsTest(unittest.TestCase):
    def assert_climbs(self, ladder, kept, order):
        for place in range(len(order)):
            ahead, behind = climbed_from(ladder, place), climbing_to(ladder, place)
            self.assertIs(ahead.__class__, dict)
            self.assertIs(behind.__class__, dict)
            self.assertEqual(ahead, own_climbed(kept, order, place))
            self.assertEqual(behind, own_climbing(kept, order, place))
            self.assertEqual((ahead[place], behind[place]), ((0, 0), (0, 0)))
            for other in list(ahead) + list(behind):
                self.assertGreaterEqual(order.index(other), order.index(place))

    def test_a_row(self):
        net = (3, [(0, 1, 5, 1), (1, 2, 7, 1)])
        ladder = Ladder(net, [0, 1, 2])
        self.assertEqual([climbed_from(ladder, place) for place in range(3)],
                         [{0: (0, 0), 1: (5, 1), 2: (12, 2)}, {1: (0, 0), 2: (7, 1)}, {2: (0, 0)}])
        self.assertEqual([climbing_to(ladder, place) for place in range(3)], [{0: (0, 0)}, {1: (0, 0)}, {2: (0, 0)}])
        ladder = Ladder(net, [2, 1, 0])
        self.assertEqual([climbed_from(ladder, place) for place in range(3)], [{0: (0, 0)}, {1: (0, 0)}, {2: (0, 0)}])
        self.assertEqual([climbing_to(ladder, place) for place in range(3)],
                         [{0: (0, 0)}, {0: (5, 1), 1: (0, 0)}, {0: (12, 2), 1: (7, 1), 2: (0, 0)}])
        ladder = Ladder(net, [0, 2, 1])
        self.assertEqual(climbed_from(ladder, 0), {0: (0, 0), 1: (5, 1)})
        self.assertEqual(climbing_to(ladder, 2), {2: (0, 0), 1: (7, 1)})
        self.assertEqual(tops(ladder, 0, 2), [1])

    def test_arcs_that_are_not_kept_are_not_climbed(self):
        # The road from 0 to 1 costs more than the way over 2, which stands above both.
        ladder = Ladder((3, [(0, 2, 1, 1), (2, 1, 1, 1), (0, 1, 9, 1)]), [0, 1, 2])
        self.assertIn((0, 1), ladder.arcs())
        self.assertEqual(climbed_from(ladder, 0), {0: (0, 0), 2: (1, 1)})
        self.assertEqual(climbing_to(ladder, 1), {1: (0, 0), 2: (1, 1)})
        self.assertEqual(tops(ladder, 0, 1), [2])

    def test_a_place_may_be_climbed_at_more_than_its_cost(self):
        # Both arcs are kept, and the way down from 3 to 2 costs less than the climb over 1.
        net = (4, [(0, 1, 5, 1), (1, 2, 5, 1), (0, 3, 1, 1), (3, 2, 1, 1)])
        ladder = Ladder(net, [0, 1, 2, 3])
        self.assertEqual(climbed_from(ladder, 0)[2], (10, 2))
        self.assertEqual(cost_table(net)[0][2], (2, 2))
        self.assertEqual(tops(ladder, 0, 2), [3])

    def test_many_maps_with_orders(self):
        for net, order in maps_with_orders(60, 3):
            ladder = Ladder(net, order)
            self.assert_climbs(ladder, {(u, w): ladder.cost(u, w) for u, w in ladder.kept()}, order)

    def test_kept_arcs_of_another_make(self):
        for seed, net in enumerate(small_maps(40)):
            for order in orders_of(net, seed)[::4]:
                self.assert_climbs(Ladder(net, order), own_kept(net, order), order)

    def test_what_is_told_is_new_and_changes_nothing(self):
        for net, order in maps_with_orders(8, 0):
            ladder = Ladder(net, order)
            kept = {(u, w): ladder.cost(u, w) for u, w in ladder.kept()}
            for place in range(net[0]):
                spoil((climbed_from(ladder, place), climbing_to(ladder, place), tops(ladder, place, 0)))
            self.assert_climbs(ladder, kept, order)
            self.assertEqual((ladder.told_map(), ladder.order()), (net, order))

    def test_the_names_of_what_is_handed_in(self):
        ladder = Ladder((2, [(0, 1, 5, 1)]), [0, 1])
        self.assertEqual(climbed_from(ladder=ladder, start=0), {0: (0, 0), 1: (5, 1)})
        self.assertEqual(climbing_to(ladder=ladder, goal=1), {1: (0, 0)})
        self.assertEqual(tops(ladder=ladder, start=0, goal=1), [1])


class TopsTest(unittest.TestCase):
    def test_several_tops_in_rising_order(self):
        # Two ways of equal cost, each over a place of its own above both ends.
        net = (4, [(0, 3, 1, 1), (3, 1, 1, 1), (0, 2, 1, 1), (2, 1, 1, 1)])
        self.assertEqual(tops(Ladder(net, [0, 1, 2, 3]), 0, 1), [2, 3])
        self.assertEqual(tops(Ladder(net, [0, 1, 3, 2]), 0, 1), [2, 3])
        # With 2 below 1 the way over 2 climbs all along, and the goal itself is its top.
        self.assertEqual(tops(Ladder(net, [0, 2, 1, 3]), 0, 1), [1, 3])
        # The road has the lesser count, and its higher end is the top.
        road = (4, net[1] + [(0, 1, 2, 1)])
        self.assertEqual(tops(Ladder(road, [0, 1, 2, 3]), 0, 1), [1])
        self.assertEqual(tops(Ladder(road, [1, 0, 2, 3]), 0, 1), [0])

    def test_from_a_place_to_itself(self):
        for net, order in maps_with_orders(30, 1):
            ladder = Ladder(net, order)
            for place in range(net[0]):
                self.assertEqual(tops(ladder, place, place), [place])

    def test_none_where_there_is_no_way(self):
        for name in ("two places, no road", "sixteen places, no road", "shut roads only"):
            ladder = Ladder(told_maps()[name])
            self.assertEqual(tops(ladder, 0, 1), [])
            self.assertEqual(tops(ladder, 1, 0), [])
        self.assertEqual(tops(Ladder((2, [(0, 1, 0, 1)])), 1, 0), [])

    def test_the_greatest_lengths(self):
        net = told_maps()["lengths that differ by 1 near the greatest"]
        ladder = Ladder(net, [0, 3, 1, 2])
        self.assertEqual(climbed_from(ladder, 0), {0: (0, 0), 1: (MOST, 1), 2: (MOST, 1), 3: (MOST, 1)})
        self.assertEqual(tops(ladder, 0, 3), [3])

    def test_many_maps_with_orders(self):
        for net, order in maps_with_orders(60, 1):
            ladder = Ladder(net, order)
            kept = {(u, w): ladder.cost(u, w) for u, w in ladder.kept()}
            costs = cost_table(net)
            for start in range(net[0]):
                for goal in range(net[0]):
                    told = tops(ladder, start, goal)
                    self.assertIs(told.__class__, list)
                    self.assertEqual(told, own_tops(kept, order, start, goal))
                    self.assertEqual(told == [], costs[start][goal] is None)
                    # Each top stands on a cheapest way, and no lower than both ends.
                    for top in told:
                        self.assertEqual(summed(costs[start][top], costs[top][goal]), costs[start][goal])
                        self.assertGreaterEqual(order.index(top), max(order.index(start), order.index(goal)))


if __name__ == "__main__":
    unittest.main()
