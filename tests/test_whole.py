"""The promise over the whole program (point 3): all that tells a cost tells the same one."""

import unittest

from helper import MOST, Numbers, cost_table, large_maps, lists_within, made_map, orders_of, small_maps, told_maps
from nodeladder.asks import ask, cost_between
from nodeladder.houses import House
from nodeladder.labels import label_into, label_out, met
from nodeladder.ladders import Ladder
from nodeladder.many import costs_in, costs_out, table
from nodeladder.search import are_right, costs_from, costs_to
from nodeladder.ways import places_of, walked


class WholeTest(unittest.TestCase):
    def assert_alike(self, net, ladder, costs):
        """Plain search, climbing from both ends, sweeps and labels tell these costs; each way told is of its cost."""
        places = range(net[0])
        self.assertEqual([costs_from(net, start) for start in places], costs)
        self.assertEqual([costs_out(ladder, start) for start in places], costs)
        self.assertEqual(table(ladder, list(places), list(places)), costs)
        outs = [label_out(ladder, place) for place in places]
        intos = [label_into(ladder, place) for place in places]
        for goal in places:
            prices = [row[goal] for row in costs]
            self.assertEqual([costs_to(net, goal), costs_in(ladder, goal)], [prices, prices])
            self.assertTrue(are_right(net, goal, prices))
            for start in places:
                told, best = ask(ladder, start, goal), met(outs[start], intos[goal])
                self.assertEqual(cost_between(ladder, start, goal), costs[start][goal])
                self.assertEqual(told and told[0], costs[start][goal])
                self.assertEqual(best and best[0], costs[start][goal])
                if told is not None:
                    self.assertEqual((walked(net, start, told[1]), told[2]), ((goal, told[0]), prices))

    def assert_short_cuts(self, net, ladder):
        """Each short cut unpacks to a way of its cost whose places between are below both ends."""
        order = ladder.order()
        for u, w in ladder.arcs():
            roads = ladder.unpacked(u, w)
            self.assertEqual(walked(net, u, roads), (w, ladder.cost(u, w)))
            for place in places_of(net, u, roads)[1:-1]:
                self.assertLess(order.index(place), min(order.index(u), order.index(w)))

    def test_whatever_the_map_and_the_order(self):
        for seed, net in enumerate(list(told_maps().values()) + small_maps(40) + large_maps(3)):
            costs = cost_table(net)
            for order in [None] + orders_of(net, seed)[-3:]:
                ladder = Ladder(net, order)
                self.assert_alike(net, ladder, costs)
                self.assert_short_cuts(net, ladder)

    def test_after_whatever_changes(self):
        for seed in range(30):
            numbers = Numbers(seed)
            net = made_map(40 + seed, 2 + seed % 6, 14)
            house = House(net, orders_of(net, seed)[-1])
            for k in range(8 if net[1] else 0):
                if numbers.below(4) == 0 and house.changes():
                    house.back()
                else:
                    house.change(numbers.below(len(net[1])), numbers.one_of((None, None, 0, 1, 2, 9, MOST)))
                net, ladder = house.told_map(), house.ladder()
                self.assert_alike(net, ladder, cost_table(net))
                self.assert_short_cuts(net, ladder)
                start, goal = numbers.below(net[0]), numbers.below(net[0])
                self.assertEqual(house.ask(start, goal), House(net, house.order()).ask(start, goal))

    def test_no_two_told_lists_are_one(self):
        house = House(*[(net, order) for net in small_maps(30)[-1:] for order in orders_of(net, 1)[:1]][0])
        ladder = house.ladder()
        told = [house.told_map(), ladder.told_map(), house.order(), ladder.order(), ladder.arcs(), ladder.kept(),
                house.changes(), house.ask(0, 0), ask(ladder, 0, 0), costs_out(ladder, 0), costs_in(ladder, 0),
                table(ladder, [0, 0], [0]), label_out(ladder, 0), label_into(ladder, 0), house.ladder().order()]
        lists = lists_within(told)
        self.assertEqual(len(lists), len({id(part) for part in lists}))


if __name__ == "__main__":
    unittest.main()
