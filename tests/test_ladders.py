import copy
import itertools
import unittest

from helper import (FOUR, MOST, NO_MAPS, NO_NUMBERS, NO_ORDERS, cost_table, made_map, maps_with_orders, orders_of,
                    own_kept, small_maps, spoil, told_maps)
from nodeladder.arcs import arc_costs, middles
from nodeladder.errors import LadderError, NoArc, NoMap, NoOrder
from nodeladder.ladders import Ladder
from nodeladder.orders import ranked

NO_PLACES = NO_NUMBERS + (4, 5, 16)


class LadderTest(unittest.TestCase):
    def assert_told(self, ladder, net, order):
        """All that a ladder tells, but the unpacked arcs, is that of the map and the order."""
        costs, over, whole = arc_costs(net, order), middles(net, order), cost_table(net)
        self.assertEqual(ladder.told_map(), net)
        self.assertEqual(ladder.order(), order)
        self.assertEqual(ladder.arcs(), sorted(costs))
        for u, w in costs:
            self.assertEqual(ladder.cost(u, w), costs[u, w])
            self.assertEqual(ladder.middle(u, w), over[u, w])
        self.assertEqual(ladder.kept(), sorted((u, w) for u, w in costs if costs[u, w] <= whole[u][w]))

    def test_one_by_hand(self):
        ladder = Ladder(FOUR, [1, 2, 0, 3])
        self.assertEqual(ladder.told_map(), FOUR)
        self.assertEqual(ladder.order(), [1, 2, 0, 3])
        self.assertEqual(ladder.arcs(), [(0, 1), (0, 2), (0, 3), (1, 3), (2, 3)])
        self.assertEqual([ladder.cost(u, w) for u, w in ladder.arcs()], [(1, 1), (2, 1), (4, 2), (3, 1), (3, 1)])
        self.assertEqual([ladder.middle(u, w) for u, w in ladder.arcs()], [None, None, 1, None, None])
        self.assertEqual(ladder.unpacked(0, 3), [0, 1])
        self.assertEqual(ladder.kept(), ladder.arcs())

    def test_an_arc_that_is_not_kept(self):
        # With 1 at the top the cheapest way over places below goes over 2, and the cheapest of all goes over 1.
        ladder = Ladder(FOUR, [2, 0, 3, 1])
        self.assertEqual(ladder.cost(0, 3), (5, 2))
        self.assertEqual(ladder.unpacked(0, 3), [2, 3])
        self.assertEqual(ladder.kept(), [(0, 1), (0, 2), (1, 3), (2, 3)])
        # With 0 and 3 at the bottom it is the road.
        ladder = Ladder(FOUR, [0, 3, 1, 2])
        self.assertEqual((ladder.cost(0, 3), ladder.middle(0, 3), ladder.unpacked(0, 3)), ((6, 1), None, [4]))
        self.assertNotIn((0, 3), ladder.kept())

    def test_an_arc_of_the_least_cost_is_kept_by_another_way_too(self):
        # Over 1 and over 2 it costs the same; the arc has the one that is below.
        net = (4, [(0, 1, 1, 1), (1, 3, 1, 1), (0, 2, 1, 1), (2, 3, 1, 1)])
        for order in ([1, 0, 3, 2], [2, 0, 3, 1], [1, 2, 0, 3]):
            self.assertIn((0, 3), Ladder(net, order).kept())
        # The same length by a greater count is no more the least.
        net = (4, [(0, 1, 1, 1), (1, 2, 0, 1), (2, 3, 1, 1), (0, 3, 2, 1)])
        self.assertIn((0, 3), Ladder(net, [0, 3, 1, 2]).kept())
        net = (5, [(0, 1, 1, 1), (1, 2, 0, 1), (2, 3, 1, 1), (0, 4, 1, 1), (4, 3, 1, 1)])
        self.assertEqual(Ladder(net, [1, 2, 0, 3, 4]).cost(0, 3), (2, 3))
        self.assertNotIn((0, 3), Ladder(net, [1, 2, 0, 3, 4]).kept())

    def test_many_maps_with_orders(self):
        for net, order in maps_with_orders(80, 4):
            self.assert_told(Ladder(net, order), net, order)

    def test_each_count_of_places(self):
        for places in range(1, 17):
            for seed in range(3):
                net = made_map(seed + 31 * places, places, 60)
                for ladder in (Ladder(net), Ladder(net, None), Ladder(net, order=None), Ladder(net=net)):
                    self.assert_told(ladder, net, ranked(net))
                for order in orders_of(net, seed)[-3:]:
                    self.assert_told(Ladder(net, order), net, order)
                    self.assert_told(Ladder(order=order, net=net), net, order)

    def test_kept_arcs_by_another_make(self):
        for seed, net in enumerate(small_maps(60)):
            for order in orders_of(net, seed)[::3]:
                ladder = Ladder(net, order)
                self.assertEqual({arc: ladder.cost(*arc) for arc in ladder.kept()}, own_kept(net, order))

    def test_kinds(self):
        ladder = Ladder(FOUR, [1, 2, 0, 3])
        self.assertIs(ladder.told_map().__class__, tuple)
        self.assertEqual([part.__class__ for part in ladder.told_map()], [int, list])
        for told in (ladder.order(), ladder.arcs(), ladder.kept(), ladder.unpacked(0, 3)):
            self.assertIs(told.__class__, list)
        for arc in ladder.arcs() + ladder.kept():
            self.assertIs(arc.__class__, tuple)
            self.assertIs(ladder.cost(*arc).__class__, tuple)

    def test_what_is_no_map_is_refused_whatever_the_order_is(self):
        for net in NO_MAPS:
            for order in (None, [0], [0, 1]) + NO_ORDERS:
                with self.assertRaises(NoMap):
                    Ladder(net, order)
            with self.assertRaises(NoMap):
                Ladder(net)

    def test_what_is_no_order_is_refused(self):
        for order in NO_ORDERS:
            with self.subTest(repr(order)), self.assertRaises(NoOrder):
                Ladder(FOUR, order)
            with self.assertRaises(NoOrder):
                Ladder(FOUR, order=order)
        self.assertRaises(NoOrder, Ladder, (1, []), [])
        self.assertRaises(NoOrder, Ladder, (1, []), [False])
        self.assertEqual(Ladder((1, []), [0]).order(), [0])

    def test_where_there_is_no_arc(self):
        for net, order in maps_with_orders(20, 0):
            ladder = Ladder(net, order)
            arcs = ladder.arcs()
            for u, w in itertools.product(range(-2, net[0] + 2), repeat=2):
                if (u, w) not in arcs:
                    for asked in (ladder.cost, ladder.middle, ladder.unpacked):
                        self.assertRaises(NoArc, asked, u, w)

    def test_what_is_no_place_has_no_arc(self):
        for order in ([1, 2, 0, 3], [2, 0, 3, 1], None):
            ladder = Ladder(FOUR, order)
            for asked in (ladder.cost, ladder.middle, ladder.unpacked):
                for thing, place in itertools.product(NO_PLACES, range(4)):
                    with self.subTest(asked.__name__, thing=repr(thing), place=place):
                        self.assertRaises(NoArc, asked, thing, place)
                        self.assertRaises(NoArc, asked, place, thing)
                for thing, other in itertools.product(NO_PLACES, repeat=2):
                    self.assertRaises(NoArc, asked, thing, other)
                for place in range(4):
                    self.assertRaises(NoArc, asked, place, place)
                self.assertRaises(NoArc, asked, 3, 0)

    def test_truths_are_no_places_where_numbers_have_an_arc(self):
        ladder = Ladder((2, [(0, 1, 5, 1), (1, 0, 4, 1)]))
        for asked in (ladder.cost, ladder.middle, ladder.unpacked):
            for pair in ((False, 1), (0, True), (False, True), (True, 0), (1, False), (True, False)):
                self.assertRaises(NoArc, asked, *pair)
            asked(0, 1)
            asked(w=0, u=1)

    def test_a_refusal_is_a_ladder_error_and_changes_nothing(self):
        ladder = Ladder(FOUR, [1, 2, 0, 3])
        self.assertRaises(LadderError, ladder.unpacked, 0, 0)
        self.assertRaises(LadderError, Ladder, None)
        self.assertRaises(LadderError, Ladder, FOUR, [])
        self.assert_told(ladder, FOUR, [1, 2, 0, 3])

    def test_what_is_handed_in_stays_and_what_is_told_is_new(self):
        for net, order in maps_with_orders(20, 1):
            handed, handed_order = copy.deepcopy(net), list(order)
            ladder = Ladder(handed, handed_order)
            self.assertEqual((handed, handed_order), (net, order))
            spoil((handed, handed_order))
            self.assert_told(ladder, net, order)
            for asked in (ladder.told_map, ladder.order, ladder.arcs, ladder.kept):
                told = asked()
                spoil(told)
                self.assertIsNot(asked(), told)
                self.assert_told(ladder, net, order)
            handed = copy.deepcopy(net)
            ladder = Ladder(handed)
            handed[1].reverse()
            handed[1].clear()
            self.assert_told(ladder, net, ranked(net))

    def test_ladders_beside_one_another(self):
        order = [1, 2, 0, 3]
        one, other = Ladder(FOUR, order), Ladder(told_maps()["roads of length 0"], order)
        third = Ladder(one.told_map(), one.order())
        self.assert_told(one, FOUR, order)
        self.assert_told(other, told_maps()["roads of length 0"], order)
        self.assert_told(third, FOUR, order)


class UnpackedTest(unittest.TestCase):
    def assert_unpacked(self, net, order):
        """Each arc unpacks to a way over open roads, with places below both ends between, of the arc's cost."""
        ladder = Ladder(net, order)
        for u, w in ladder.arcs():
            told = ladder.unpacked(u, w)
            place, length = u, 0
            for k, number in enumerate(told):
                self.assertIs(number.__class__, int)
                self.assertIn(number, range(len(net[1])))
                self.assertEqual(net[1][number][0], place)
                self.assertIsNotNone(net[1][number][2])
                place, length = net[1][number][1], length + net[1][number][2]
                if k < len(told) - 1:
                    self.assertLess(order.index(place), min(order.index(u), order.index(w)))
            self.assertEqual(place, w)
            self.assertEqual((length, len(told)), ladder.cost(u, w))

    def test_each_order_of_maps_of_up_to_four_places(self):
        for seed in range(80):
            net = made_map(900 + seed, 1 + seed % 4, 10)
            for order in itertools.permutations(range(net[0])):
                self.assert_unpacked(net, list(order))

    def test_many_maps_with_orders(self):
        for net, order in maps_with_orders(80, 6):
            self.assert_unpacked(net, order)

    def test_of_several_roads_one_of_the_least_cost(self):
        net = told_maps()["several roads between the same places"]
        for order in itertools.permutations(range(3)):
            ladder = Ladder(net, list(order))
            self.assertIn(ladder.unpacked(0, 1), ([1], [3]))
            self.assertEqual(ladder.unpacked(1, 2), [5])
        # A shut road ahead of an open one, and one that leads the other way.
        ladder = Ladder((2, [(0, 1, None, 1), (1, 0, 0, 1), (0, 1, 9, 1), (0, 1, 0, 1), (1, 0, 0, 1)]))
        self.assertEqual(ladder.unpacked(0, 1), [3])
        self.assertIn(ladder.unpacked(1, 0), ([1], [4]))

    def test_a_long_row(self):
        net = told_maps()["a row of sixteen of the greatest length"]
        for inner in (list(range(1, 15)), list(range(14, 0, -1)), [8, 2, 14, 4, 10, 6, 12, 1, 3, 5, 7, 9, 11, 13]):
            ladder = Ladder(net, inner + [0, 15])
            self.assertEqual(ladder.unpacked(0, 15), list(range(15)))
            self.assertEqual(ladder.cost(0, 15), (15 * MOST, 15))

    def test_roads_of_length_0(self):
        ladder = Ladder(told_maps()["a ring of sixteen, length 0"], list(range(16)))
        self.assertEqual(ladder.unpacked(15, 14), [15] + list(range(14)))
        self.assertEqual(ladder.cost(15, 14), (0, 15))

    def test_a_new_list_each_time(self):
        for order in ([1, 2, 0, 3], [0, 3, 1, 2]):
            ladder = Ladder(FOUR, order)
            for arc in ladder.arcs():
                told = ladder.unpacked(*arc)
                kept = list(told)
                told.append("spoiled")
                self.assertEqual(ladder.unpacked(*arc), kept)
                self.assertIsNot(ladder.unpacked(*arc), ladder.unpacked(*arc))
            self.assert_unpacked(FOUR, order)


if __name__ == "__main__":
    unittest.main()
