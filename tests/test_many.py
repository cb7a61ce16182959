import unittest

from helper import (MOST, Numbers, cost_table, large_maps, least_of, lists_within, maps_with_orders, orders_of,
                    small_maps, spoil, told_maps, ways_from)
from nodeladder.asks import cost_between
from nodeladder.ladders import Ladder
from nodeladder.many import between, costs_in, costs_out, nearest, table, within
from nodeladder.search import costs_from, costs_to

# From 0: 1 at (5, 1), 2 at (5, 2), 3 at (7, 2), 4 at (5, 1), 5 by no way.
NET = (6, [(0, 1, 5, 1), (1, 2, 0, 1), (1, 3, 2, 1), (0, 4, 5, 1), (5, 0, 1, 1), (0, 5, None, 1)])


def own_nearest(costs, goals, most):
    """The nearest goals, taken one by one, the best of those left."""
    left, told = [goal for goal in goals if costs[goal] is not None], []
    while left and len(told) < most:
        best = left[0]
        for goal in left:
            if costs[goal] < costs[best] or costs[goal] == costs[best] and goal < best:
                best = goal
        told.append((costs[best], best))
        left = [goal for goal in left if goal != best]
    return told


def own_between(net, start, goal):
    """The places of all cheapest ways, by walking all ways."""
    ways = [(places, cost) for places, cost in ways_from(net, start) if places[-1] == goal]
    best = least_of([cost for places, cost in ways])
    return sorted({place for places, cost in ways if cost == best for place in places})


class CostsTest(unittest.TestCase):
    def assert_costs(self, net, order):
        ladder, costs = Ladder(net, order), cost_table(net)
        for place in range(net[0]):
            out, into = costs_out(ladder, place), costs_in(ladder, place)
            self.assertIs(out.__class__, list)
            self.assertIs(into.__class__, list)
            self.assertEqual(out, costs[place])
            self.assertEqual(into, [row[place] for row in costs])
            self.assertEqual((out, into), (costs_from(net, place), costs_to(net, place)))
            self.assertEqual(out, [cost_between(ladder, place, goal) for goal in range(net[0])])

    def test_one_by_hand(self):
        for order in orders_of(NET, 1):
            ladder = Ladder(NET, order)
            self.assertEqual(costs_out(ladder, 0), [(0, 0), (5, 1), (5, 2), (7, 2), (5, 1), None])
            self.assertEqual(costs_in(ladder, 3), [(7, 2), (2, 1), None, (0, 0), None, (8, 3)])

    def test_each_order_of_small_maps(self):
        for seed, net in enumerate(small_maps(60, 4, 9)):
            for order in orders_of(net, seed):
                self.assert_costs(net, order)

    def test_many_maps_with_orders(self):
        for net, order in maps_with_orders(60, 4):
            self.assert_costs(net, order)

    def test_each_told_list_is_new(self):
        for net, order in maps_with_orders(10, 0):
            ladder = Ladder(net, order)
            for place in range(net[0]):
                spoil((costs_out(ladder, place), costs_in(ladder, place)))
            self.assert_costs(net, order)
            self.assertEqual(costs_out(ladder, 0), costs_from(net, 0))
            self.assertEqual((ladder.told_map(), ladder.order()), (net, order))

    def test_the_names_of_what_is_handed_in(self):
        ladder = Ladder((2, [(0, 1, 5, 1)]))
        self.assertEqual(costs_out(ladder=ladder, start=0), [(0, 0), (5, 1)])
        self.assertEqual(costs_in(ladder=ladder, goal=0), [(0, 0), None])


class TableTest(unittest.TestCase):
    def test_by_start_and_by_goal_as_they_stand(self):
        ladder = Ladder(NET)
        self.assertEqual(table(ladder, [1, 0], [3, 0, 2]), [[(2, 1), None, (0, 1)], [(7, 2), (0, 0), (5, 2)]])
        self.assertEqual(table(ladder=ladder, starts=[5], goals=[5, 0]), [[(0, 0), (1, 1)]])

    def test_empty_ones(self):
        ladder = Ladder(NET)
        self.assertEqual(table(ladder, [], []), [])
        self.assertEqual(table(ladder, [], [0, 1]), [])
        self.assertEqual(table(ladder, [0, 1, 0], []), [[], [], []])

    def test_repeats(self):
        ladder = Ladder(NET)
        row = [(5, 1), (5, 1), (0, 0), (5, 1)]
        self.assertEqual(table(ladder, [0, 0, 4, 0], [1, 4, 0, 1]), [row, row, [None, (0, 0), None, None], row])

    def test_lists_of_two_hundred(self):
        ladder = Ladder(NET)
        numbers = Numbers(5)
        starts, goals = [numbers.below(6) for k in range(200)], [numbers.below(6) for k in range(200)]
        costs = cost_table(NET)
        self.assertEqual(table(ladder, starts, goals), [[costs[start][goal] for goal in goals] for start in starts])

    def test_many_maps_with_orders(self):
        for seed, (net, order) in enumerate(maps_with_orders(60, 2)):
            ladder, costs, numbers = Ladder(net, order), cost_table(net), Numbers(seed)
            starts = [numbers.below(net[0]) for k in range(numbers.below(7))]
            goals = [numbers.below(net[0]) for k in range(numbers.below(7))]
            told = table(ladder, starts, goals)
            self.assertEqual(told, [[costs[start][goal] for goal in goals] for start in starts])
            self.assertEqual(table(ladder, list(range(net[0])), list(range(net[0]))), costs)

    def test_each_row_is_its_own_list(self):
        ladder, starts, goals = Ladder(NET), [0, 0, 3, 3, 0], [1, 1, 2]
        told = table(ladder, starts, goals)
        self.assertEqual((starts, goals), ([0, 0, 3, 3, 0], [1, 1, 2]))
        again = table(ladder, starts, goals)
        lists = lists_within((told, again, table(ladder, [1, 1], [])))
        self.assertEqual(len(lists), len({id(part) for part in lists}))
        told[0].append("spoiled")
        self.assertEqual(told[1:], again[1:])
        spoil(told)
        self.assertEqual(table(ladder, starts, goals), again)


class NearestTest(unittest.TestCase):
    def test_equal_costs_by_the_lesser_number(self):
        ladder = Ladder(NET)
        whole = [((0, 0), 0), ((5, 1), 1), ((5, 1), 4), ((5, 2), 2), ((7, 2), 3)]
        for goals in ([0, 1, 2, 3, 4, 5], [5, 4, 3, 2, 1, 0], [4, 1, 4, 1, 0, 0, 3, 2, 3, 5, 5]):
            for most in range(9):
                self.assertEqual(nearest(ladder, 0, goals, most), whole[:most])
            self.assertEqual(nearest(ladder, 0, goals), whole[:1])
        self.assertEqual(nearest(ladder, 0, [4, 1]), [((5, 1), 1)])
        self.assertEqual(nearest(ladder, 0, [2, 4]), [((5, 1), 4)])

    def test_repeats_count_once(self):
        self.assertEqual(nearest(Ladder(NET), 0, [4, 4, 3, 3, 4], 2), [((5, 1), 4), ((7, 2), 3)])
        self.assertEqual(nearest(Ladder(NET), 0, [4, 4, 4], 3), [((5, 1), 4)])

    def test_goals_without_a_way_and_none(self):
        ladder = Ladder(NET)
        self.assertEqual(nearest(ladder, 0, [5]), [])
        self.assertEqual(nearest(ladder, 0, [5, 3], 2), [((7, 2), 3)])
        self.assertEqual(nearest(ladder, 0, []), [])
        self.assertEqual(nearest(ladder, 0, [], 7), [])
        self.assertEqual(nearest(ladder, 2, [0, 1, 3, 4, 5], 7), [])

    def test_how_many(self):
        ladder = Ladder(NET)
        self.assertEqual(nearest(ladder, 0, [1, 2, 3], 0), [])
        self.assertEqual(nearest(ladder, 0, [1, 2, 3], 10 ** 69), [((5, 1), 1), ((5, 2), 2), ((7, 2), 3)])
        self.assertEqual(nearest(ladder, 0, [1, 2, 3], most=2), [((5, 1), 1), ((5, 2), 2)])
        self.assertEqual(nearest(ladder=ladder, start=0, goals=[3]), [((7, 2), 3)])

    def test_many_maps_with_orders(self):
        for seed, (net, order) in enumerate(maps_with_orders(60, 2)):
            ladder, costs, numbers = Ladder(net, order), cost_table(net), Numbers(seed)
            for start in range(net[0]):
                goals = [numbers.below(net[0]) for k in range(numbers.below(20))]
                handed = list(goals)
                for most in (0, 1, 2, 3, 16, 200):
                    self.assertEqual(nearest(ladder, start, handed, most), own_nearest(costs[start], goals, most))
                self.assertEqual(nearest(ladder, start, handed), own_nearest(costs[start], goals, 1))
                self.assertEqual(handed, goals)

    def test_what_is_told_is_new(self):
        ladder, goals = Ladder(NET), [1, 2, 3]
        told = nearest(ladder, 0, goals, 3)
        self.assertIs(told.__class__, list)
        self.assertEqual([entry.__class__ for entry in told], [tuple] * 3)
        spoil((told, goals))
        self.assertEqual(nearest(ladder, 0, [1, 2, 3], 3), [((5, 1), 1), ((5, 2), 2), ((7, 2), 3)])


class WithinTest(unittest.TestCase):
    def test_lengths_at_the_costs_one_less_and_one_more(self):
        ladder = Ladder(NET)
        for length, right in ((0, [0]), (4, [0]), (5, [0, 1, 2, 4]), (6, [0, 1, 2, 4]), (7, [0, 1, 2, 3, 4]),
                              (8, [0, 1, 2, 3, 4]), (10 ** 69, [0, 1, 2, 3, 4])):
            with self.subTest(length):
                self.assertEqual(within(ladder, 0, length), right)
        self.assertEqual(within(ladder=ladder, start=1, length=0), [1, 2])

    def test_length_0(self):
        for name, right in (("one place", [0]), ("two places, no road", [0]), ("shut roads only", [0]),
                            ("roads of length 0", [0, 1, 2, 3]), ("a ring of sixteen, length 0", list(range(16)))):
            self.assertEqual(within(Ladder(told_maps()[name]), 0, 0), right)

    def test_the_greatest_lengths(self):
        ladder = Ladder(told_maps()["a row of sixteen of the greatest length"])
        for k in range(16):
            self.assertEqual(within(ladder, 0, k * MOST), list(range(k + 1)))
            self.assertEqual(within(ladder, 0, k * MOST + MOST - 1), list(range(k + 1)))

    def test_many_maps_with_orders(self):
        for net, order in maps_with_orders(60, 1):
            ladder, costs = Ladder(net, order), cost_table(net)
            for start, row in enumerate(costs):
                lengths = {cost[0] + more for cost in row if cost for more in (-1, 0, 1)} - {-1}
                for length in sorted(lengths):
                    right = [place for place in range(net[0]) if row[place] and row[place][0] <= length]
                    self.assertEqual(within(ladder, start, length), right)

    def test_what_is_told_is_new(self):
        ladder = Ladder(NET)
        told = within(ladder, 0, 5)
        self.assertIs(told.__class__, list)
        spoil(told)
        self.assertEqual(within(ladder, 0, 5), [0, 1, 2, 4])


class BetweenTest(unittest.TestCase):
    def test_both_ends_are_among_them(self):
        ladder = Ladder(NET)
        self.assertEqual(between(ladder, 0, 3), [0, 1, 3])
        self.assertEqual(between(ladder, 5, 2), [0, 1, 2, 5])
        self.assertEqual(between(ladder, 0, 1), [0, 1])
        self.assertEqual(between(ladder=ladder, start=4, goal=4), [4])

    def test_none_where_there_is_no_way(self):
        self.assertEqual(between(Ladder(NET), 0, 5), [])
        self.assertEqual(between(Ladder(NET), 3, 0), [])
        self.assertEqual(between(Ladder(told_maps()["shut roads only"]), 0, 2), [])
        self.assertEqual(between(Ladder((2, [])), 0, 1), [])

    def test_a_place_to_itself(self):
        for net, order in maps_with_orders(30, 1):
            for place in range(net[0]):
                self.assertEqual(between(Ladder(net, order), place, place), [place])

    def test_roads_of_length_0(self):
        # The way over 1 has the greater count.
        for order in orders_of((4, []), 0):
            self.assertEqual(between(Ladder(told_maps()["roads of length 0"], order), 0, 3), [0, 2, 3])
            self.assertEqual(between(Ladder(told_maps()["a ring of length 0 off the road"], order), 0, 2), [0, 1, 2])

    def test_all_cheapest_ways_count(self):
        net = (5, [(0, 1, 1, 1), (1, 4, 1, 1), (0, 2, 2, 1), (2, 4, 0, 1), (0, 3, 1, 1), (3, 4, 2, 1)])
        for order in orders_of(net, 2):
            self.assertEqual(between(Ladder(net, order), 0, 4), [0, 1, 2, 4])
        # Of equal lengths only those of the least count are cheapest.
        for order in orders_of(net, 4):
            self.assertEqual(between(Ladder(told_maps()["equal lengths, unlike counts"], order), 0, 4), [0, 3, 4])

    def test_many_small_maps(self):
        for seed, net in enumerate(small_maps(80, 6, 12) + list(told_maps().values())[:1]):
            for order in orders_of(net, seed)[::3]:
                ladder = Ladder(net, order)
                for start in range(net[0]):
                    for goal in range(net[0]):
                        self.assertEqual(between(ladder, start, goal), own_between(net, start, goal))

    def test_some_large_maps(self):
        for net in large_maps(3) + [told_maps()["a ring of sixteen, both ways"]]:
            for order in orders_of(net, 9)[1:3]:
                ladder, costs = Ladder(net, order), cost_table(net)
                for start in range(net[0]):
                    for goal in range(net[0]):
                        self.assertEqual(between(ladder, start, goal), self.by_costs(costs, start, goal))

    def by_costs(self, costs, start, goal):
        if costs[start][goal] is None:
            return []
        legs = [(costs[start][place], costs[place][goal]) for place in range(len(costs))]
        return [place for place, (ahead, behind) in enumerate(legs)
                if ahead and behind and (ahead[0] + behind[0], ahead[1] + behind[1]) == costs[start][goal]]

    def test_what_is_told_is_new(self):
        ladder = Ladder(NET)
        told = between(ladder, 0, 3)
        self.assertIs(told.__class__, list)
        spoil(told)
        spoil(between(ladder, 0, 5))
        self.assertEqual(between(ladder, 0, 3), [0, 1, 3])
        self.assertEqual(between(ladder, 0, 5), [])


if __name__ == "__main__":
    unittest.main()
