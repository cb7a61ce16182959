import unittest

from helper import MOST, cost_table, lists_within, maps_with_orders, orders_of, small_maps, spoil, told_maps
from nodeladder.asks import ask, cost_between
from nodeladder.ladders import Ladder
from nodeladder.orders import ranked
from nodeladder.search import are_right, costs_from, costs_to
from nodeladder.ways import places_of, walked


class AsksTest(unittest.TestCase):
    def assert_answer(self, net, told, costs, start, goal):
        """What ask tells is right: the cost, a way of this cost, the prices; None where there is no way."""
        cost = costs[start][goal]
        if cost is None:
            self.assertIsNone(told)
            return
        self.assertIs(told.__class__, tuple)
        self.assertEqual([part.__class__ for part in told], [tuple, list, list])
        self.assertEqual(told[0], cost)
        self.assertEqual(walked(net, start, told[1]), (goal, cost))
        places = places_of(net, start, told[1])
        self.assertEqual(len(places), len(set(places)))
        self.assertEqual(told[2], [row[goal] for row in costs])
        self.assertTrue(are_right(net, goal, told[2]))

    def assert_asks(self, net, order):
        ladder, costs = Ladder(net, order), cost_table(net)
        for start in range(net[0]):
            self.assertEqual(costs[start], costs_from(net, start))
            for goal in range(net[0]):
                self.assertEqual(cost_between(ladder, start, goal), costs[start][goal])
                self.assert_answer(net, ask(ladder, start, goal), costs, start, goal)

    def test_one_by_hand(self):
        net = (4, [(0, 1, 1, 1), (1, 3, 3, 1), (0, 2, 2, 1), (2, 3, 3, 1), (0, 3, 6, 1), (3, 0, None, 1)])
        for order in orders_of(net, 0):
            ladder = Ladder(net, order)
            self.assertEqual(cost_between(ladder, 0, 3), (4, 2))
            self.assertEqual(ask(ladder, 0, 3), ((4, 2), [0, 1], [(4, 2), (3, 1), (3, 1), (0, 0)]))
            self.assertEqual(ask(ladder, 1, 1), ((0, 0), [], [(1, 1), (0, 0), None, None]))
            self.assertIsNone(cost_between(ladder, 3, 0))
            self.assertIsNone(ask(ladder, 3, 0))

    def test_from_a_place_to_itself(self):
        for net, order in maps_with_orders(30, 1):
            ladder = Ladder(net, order)
            for place in range(net[0]):
                self.assertEqual(cost_between(ladder, place, place), (0, 0))
                self.assertEqual(ask(ladder, place, place), ((0, 0), [], costs_to(net, place)))
        self.assertEqual(ask(Ladder((1, [])), 0, 0), ((0, 0), [], [(0, 0)]))

    def test_none_where_there_is_no_way(self):
        for name in ("two places, no road", "sixteen places, no road", "shut roads only"):
            ladder = Ladder(told_maps()[name])
            for start, goal in ((0, 1), (1, 0)):
                self.assertIsNone(cost_between(ladder, start, goal))
                self.assertIsNone(ask(ladder, start, goal))

    def test_the_greatest_lengths(self):
        net = told_maps()["a row of sixteen of the greatest length"]
        for order in orders_of(net, 3):
            told = ask(Ladder(net, order), 0, 15)
            self.assertEqual(told, ((15 * MOST, 15), list(range(15)), [((15 - k) * MOST, 15 - k) for k in range(16)]))
        net = told_maps()["lengths that differ by 1 near the greatest"]
        ladder = Ladder((4, net[1][:4]), [0, 1, 2, 3])
        self.assertEqual(ask(ladder, 0, 3)[:2], ((2 * MOST - 1, 2), [2, 3]))

    def test_of_equal_lengths_the_lesser_count(self):
        net = told_maps()["equal lengths, unlike counts"]
        for order in orders_of(net, 5):
            self.assertEqual(ask(Ladder(net, order), 0, 4)[:2], ((6, 2), [3, 4]))

    def test_each_order_of_small_maps(self):
        for seed, net in enumerate(small_maps(50, 4, 9)):
            for order in orders_of(net, seed):
                self.assert_asks(net, order)

    def test_many_maps_with_orders(self):
        for net, order in maps_with_orders(60, 3):
            self.assert_asks(net, order)

    def test_the_ranked_order(self):
        for net, order in maps_with_orders(40, 3)[::5]:
            self.assert_asks(net, ranked(net))

    def test_cost_and_prices_hang_on_no_order(self):
        for seed, net in enumerate(small_maps(40)):
            ladders = [Ladder(net, order) for order in orders_of(net, seed)] + [Ladder(net)]
            for start in range(net[0]):
                for goal in range(net[0]):
                    answers = [ask(ladder, start, goal) for ladder in ladders]
                    told = [answer if answer is None else (answer[0], answer[2]) for answer in answers]
                    self.assertEqual(told, told[:1] * len(told))

    def test_each_told_list_is_new(self):
        for net, order in maps_with_orders(10, 1):
            ladder = Ladder(net, order)
            for start in range(net[0]):
                told = ask(ladder, start, 0)
                again = ask(ladder, start, 0)
                lists = lists_within((told, again))
                self.assertEqual(len(lists), len({id(part) for part in lists}))
                spoil(told)
                self.assertEqual(ask(ladder, start, 0), again)
            self.assertEqual((ladder.told_map(), ladder.order()), (net, order))
            self.assert_asks(net, order)

    def test_the_names_of_what_is_handed_in(self):
        ladder = Ladder((2, [(0, 1, 5, 1)]))
        self.assertEqual(cost_between(ladder=ladder, start=0, goal=1), (5, 1))
        self.assertEqual(ask(ladder=ladder, start=0, goal=1), ((5, 1), [0], [(5, 1), (0, 0)]))


if __name__ == "__main__":
    unittest.main()
