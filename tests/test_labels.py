import copy
import unittest

from helper import (MOST, cost_table, lists_within, maps_with_orders, orders_of, small_maps, spoil, summed,
                    told_maps, ways_from)
from nodeladder.asks import cost_between
from nodeladder.labels import label_into, label_out, met
from nodeladder.ladders import Ladder
from nodeladder.many import between


def own_label(order, place, cost_of, lies_between):
    """A label as point 21 tells it; cost_of tells the cost with the hub, lies_between the places between."""
    told = []
    for rank in range(len(order) - 1, -1, -1):
        hub = order[rank]
        above = order[rank + 1:]
        if cost_of(hub) is not None and not any(high in above for high in lies_between(hub)):
            told.append((hub, cost_of(hub)))
    return told


def places_between(net, start, goal):
    """By all ways that come to no place twice."""
    ways = [(places, cost) for places, cost in ways_from(net, start) if places[-1] == goal]
    best = min([cost for places, cost in ways], default=None)
    return {place for places, cost in ways if cost == best for place in places}


class LabelsTest(unittest.TestCase):
    def assert_labels(self, ladder, costs, lies_between):
        order = ladder.order()
        for place in range(len(order)):
            out, into = label_out(ladder, place), label_into(ladder, place)
            self.assertEqual([part.__class__ for part in (out, into)], [list, list])
            self.assertEqual({entry.__class__ for entry in out + into}, {tuple})
            self.assertEqual(out, own_label(order, place, lambda hub: costs[place][hub],
                                            lambda hub: lies_between(place, hub)))
            self.assertEqual(into, own_label(order, place, lambda hub: costs[hub][place],
                                             lambda hub: lies_between(hub, place)))
            self.assertIn((place, (0, 0)), out)
            self.assertIn((place, (0, 0)), into)
            for label in (out, into):
                heights = [order.index(hub) for hub, cost in label]
                self.assertEqual(heights, sorted(set(heights), reverse=True))
                # Hubs below the place itself are none: the place is between, and above them.
                self.assertEqual(label[-1], (place, (0, 0)))

    def test_a_row(self):
        net = (3, [(0, 1, 5, 1), (1, 2, 7, 1)])
        ladder = Ladder(net, [0, 1, 2])
        self.assertEqual(label_out(ladder, 0), [(2, (12, 2)), (1, (5, 1)), (0, (0, 0))])
        self.assertEqual(label_into(ladder, 2), [(2, (0, 0))])
        self.assertEqual(met(label_out(ladder, 0), label_into(ladder, 2)), ((12, 2), 2))
        ladder = Ladder(net, [2, 0, 1])
        self.assertEqual(label_out(ladder, 0), [(1, (5, 1)), (0, (0, 0))])
        self.assertEqual(label_into(ladder, 2), [(1, (7, 1)), (2, (0, 0))])
        self.assertEqual(met(label_out(ladder, 0), label_into(ladder, 2)), ((12, 2), 1))
        self.assertIsNone(met(label_out(ladder, 2), label_into(ladder, 0)))

    def test_a_higher_place_on_one_of_several_cheapest_ways(self):
        # From 0 to 3 over 1 or over 2, alike: with 2 above 3 the place 3 is no hub of 0.
        net = (4, [(0, 1, 1, 1), (1, 3, 1, 1), (0, 2, 1, 1), (2, 3, 1, 1)])
        self.assertEqual(label_out(Ladder(net, [0, 1, 3, 2]), 0), [(2, (1, 1)), (1, (1, 1)), (0, (0, 0))])
        self.assertEqual(label_into(Ladder(net, [3, 1, 0, 2]), 3), [(2, (1, 1)), (1, (1, 1)), (3, (0, 0))])
        # Over 2 it is as long, and has the greater count.
        net = (4, [(0, 3, 2, 1), (0, 2, 1, 1), (2, 3, 1, 1)])
        self.assertEqual(label_out(Ladder(net, [0, 1, 3, 2]), 0), [(2, (1, 1)), (3, (2, 1)), (0, (0, 0))])

    def test_no_road(self):
        for name in ("one place", "sixteen places, no road", "shut roads only"):
            ladder = Ladder(told_maps()[name])
            for place in range(len(ladder.order())):
                self.assertEqual(label_out(ladder, place), [(place, (0, 0))])
                self.assertEqual(label_into(ladder, place), [(place, (0, 0))])

    def test_by_all_ways(self):
        for seed, net in enumerate(small_maps(60)):
            costs = cost_table(net)
            for order in orders_of(net, seed)[::3]:
                self.assert_labels(Ladder(net, order), costs, lambda one, other: places_between(net, one, other))

    def test_many_maps_with_orders(self):
        for net, order in maps_with_orders(40, 1):
            ladder = Ladder(net, order)
            self.assert_labels(ladder, cost_table(net), lambda one, other: between(ladder, one, other))

    def test_what_is_told_is_new(self):
        for net, order in maps_with_orders(6, 0):
            ladder = Ladder(net, order)
            told = [(label_out(ladder, place), label_into(ladder, place)) for place in range(net[0])]
            kept = copy.deepcopy(told)
            again = [(label_out(ladder, place), label_into(ladder, place)) for place in range(net[0])]
            lists = lists_within([told, again])
            self.assertEqual(len(lists), len({id(part) for part in lists}))
            spoil(told)
            self.assertEqual(again, kept)
            self.assertEqual([(label_out(ladder, place), label_into(ladder, place)) for place in range(net[0])], kept)
            self.assertEqual((ladder.told_map(), ladder.order()), (net, order))

    def test_the_names_of_what_is_handed_in(self):
        ladder = Ladder((2, [(0, 1, 5, 1)]), [0, 1])
        self.assertEqual(label_out(ladder=ladder, place=0), [(1, (5, 1)), (0, (0, 0))])
        self.assertEqual(label_into(ladder=ladder, place=1), [(1, (0, 0))])
        self.assertEqual(met(out=[(1, (5, 1)), (0, (0, 0))], into=[(1, (0, 0))]), ((5, 1), 1))


class MetTest(unittest.TestCase):
    def test_the_first_hub_that_gives_the_least_sum(self):
        self.assertEqual(met([(4, (5, 1)), (2, (3, 1)), (0, (0, 0))], [(4, (1, 1)), (2, (3, 1)), (1, (0, 0))]),
                         ((6, 2), 4))
        self.assertEqual(met([(4, (5, 1)), (2, (3, 1)), (0, (0, 0))], [(4, (2, 1)), (2, (3, 1)), (1, (0, 0))]),
                         ((6, 2), 2))
        # By the label's order, not by the hub's number; of equal lengths the lesser count.
        self.assertEqual(met([(1, (3, 1)), (7, (3, 1)), (0, (0, 0))], [(1, (3, 1)), (7, (3, 1)), (5, (0, 0))]),
                         ((6, 2), 1))
        self.assertEqual(met([(7, (3, 1)), (1, (3, 1)), (0, (0, 0))], [(7, (3, 1)), (1, (3, 1)), (5, (0, 0))]),
                         ((6, 2), 7))
        self.assertEqual(met([(7, (3, 2)), (1, (3, 1)), (0, (0, 0))], [(7, (3, 1)), (1, (3, 1)), (5, (0, 0))]),
                         ((6, 2), 1))

    def test_none_without_a_hub_in_common(self):
        self.assertIsNone(met([(0, (0, 0))], [(1, (0, 0))]))
        self.assertIsNone(met([(2, (1, 1)), (0, (0, 0))], [(3, (1, 1)), (1, (0, 0))]))

    def test_the_same_place(self):
        for net, order in maps_with_orders(20, 0):
            ladder = Ladder(net, order)
            for place in range(net[0]):
                self.assertEqual(met(label_out(ladder, place), label_into(ladder, place)), ((0, 0), place))

    def test_the_greatest_lengths(self):
        ladder = Ladder(told_maps()["a row of sixteen of the greatest length"], list(range(16)))
        self.assertEqual(met(label_out(ladder, 0), label_into(ladder, 15)), ((15 * MOST, 15), 15))

    def test_every_start_and_goal(self):
        for net, order in maps_with_orders(60, 2):
            ladder, costs = Ladder(net, order), cost_table(net)
            outs = [label_out(ladder, place) for place in range(net[0])]
            intos = [label_into(ladder, place) for place in range(net[0])]
            kept = copy.deepcopy((outs, intos))
            for start in range(net[0]):
                for goal in range(net[0]):
                    told = met(outs[start], intos[goal])
                    self.assertEqual(None if told is None else told[0], costs[start][goal])
                    self.assertEqual(None if told is None else told[0], cost_between(ladder, start, goal))
                    if told is not None:
                        # The first hub is the highest place of all between start and goal.
                        highest = max(self.between_by(costs, start, goal), key=order.index)
                        self.assertEqual(told[1], highest)
            self.assertEqual((outs, intos), kept)

    def between_by(self, costs, start, goal):
        return [place for place in range(len(costs))
                if summed(costs[start][place], costs[place][goal]) == costs[start][goal]]


if __name__ == "__main__":
    unittest.main()
