import copy
import unittest

from helper import (FOUR, MOST, NO_MAPS, NO_NUMBERS, NO_ORDERS, Numbers, cost_table, large_maps, lists_within, made_map,
                    maps_with_orders, orders_of, own_arcs_by_tables, small_maps, spoil, told_maps)
from nodeladder.asks import ask
from nodeladder.errors import LadderError, NoDeed, NoLength, NoMap, NoOrder, NoPlace, NoRoad
from nodeladder.houses import House
from nodeladder.labels import label_into, label_out
from nodeladder.ladders import Ladder
from nodeladder.orders import ranked
from nodeladder.search import are_right
from nodeladder.ways import walked

ORDER = [1, 2, 0, 3]
NO_LENGTHS = (-1, -MOST, MOST + 1, 10 ** 69, True, False, "5", "", "-", [], [5], (), (5,), {}, {5}, 5.0, b"5", object())


def put(net, number, length):
    """The map with another length of one road."""
    roads = [road[:2] + (length,) + road[3:] if k == number else road for k, road in enumerate(net[1])]
    return (net[0], roads)


def own_touched(ahead, behind, order):
    """The arcs that differ, by tables of both maps."""
    one, other = own_arcs_by_tables(ahead, order), own_arcs_by_tables(behind, order)
    return sorted(arc for arc in {**one, **other} if one.get(arc) != other.get(arc))


def ladder_touched(ahead, behind, order):
    """The arcs that differ, by ladders of both maps."""
    one, other = Ladder(ahead, order), Ladder(behind, order)
    both = sorted(set(one.arcs() + other.arcs()))
    return [arc for arc in both
            if (arc in one.arcs()) != (arc in other.arcs()) or one.cost(*arc) != other.cost(*arc)]


def ladder_told(ladder):
    """All that a ladder tells, labels and answers among it."""
    places = range(len(ladder.order()))
    arcs = ladder.arcs()
    return (ladder.told_map(), ladder.order(), arcs, [ladder.cost(*arc) for arc in arcs],
            [ladder.middle(*arc) for arc in arcs], [ladder.unpacked(*arc) for arc in arcs], ladder.kept(),
            [label_out(ladder, place) for place in places], [label_into(ladder, place) for place in places],
            [ask(ladder, start, goal) for start in places for goal in places])


def house_told(house):
    """All that a house tells, but its changes."""
    places = range(len(house.order()))
    return (house.told_map(), house.order(), ladder_told(house.ladder()),
            [house.length(k) for k in range(len(house.told_map()[1]))],
            [house.ask(start, goal) for start in places for goal in places])


class HouseCase(unittest.TestCase):
    def assert_house(self, house, net, order, changes):
        """The house answers as one made anew of the map as it is."""
        self.assertEqual(house.told_map(), net)
        self.assertEqual(house.order(), order)
        self.assertEqual(house.changes(), changes)
        self.assertEqual([house.length(k) for k in range(len(net[1]))], [road[2] for road in net[1]])
        self.assertEqual(house_told(house), house_told(House(net, order)))
        self.assertEqual(ladder_told(house.ladder()), ladder_told(Ladder(net, order)))


class HouseTest(HouseCase):
    def test_made_of_a_map_and_an_order(self):
        for net, order in maps_with_orders(10, 0)[::5]:
            self.assert_house(House(net, order), net, order, [])
            self.assert_house(House(order=order, net=net), net, order, [])
        for net in small_maps(10):
            for house in (House(net), House(net, None), House(net=net, order=None)):
                self.assert_house(house, net, ranked(net), [])

    def test_refused_as_a_ladder_is(self):
        for net in NO_MAPS:
            self.assertRaises(NoMap, House, net)
            for order in (None, [0]) + NO_ORDERS:
                self.assertRaises(NoMap, House, net, order)
        for order in NO_ORDERS:
            self.assertRaises(NoOrder, House, FOUR, order)

    def test_the_order_stays_where_the_map_would_be_ranked_otherwise(self):
        net = (3, [(1, 0, 1, 1), (0, 2, 1, 1)])
        for ahead, behind, right in ((net, put(net, 1, None), [1, 0, 2]), (put(net, 1, None), net, [0, 1, 2])):
            house = House(ahead)
            house.change(1, behind[1][1][2])
            self.assertNotEqual(ranked(behind), right)
            self.assertEqual((house.order(), house.ladder().order()), (right, right))
            self.assert_house(house, behind, right, [(1, ahead[1][1][2], behind[1][1][2])])
            house.back()
            self.assert_house(house, ahead, right, [])

    def test_kinds(self):
        house = House(FOUR, ORDER)
        touched = house.change(0, 2)
        self.assertIs(touched.__class__, list)
        self.assertEqual({arc.__class__ for arc in touched}, {tuple})
        self.assertIs(house.changes().__class__, list)
        self.assertIs(house.changes()[0].__class__, tuple)
        self.assertIs(house.back().__class__, list)
        self.assertIsInstance(house.ladder(), Ladder)

    def test_the_names_of_what_is_handed_in(self):
        house = House(FOUR, ORDER)
        self.assertEqual(house.length(road=4), 6)
        self.assertEqual(house.change(road=4, length=1), [(0, 3)])
        self.assertEqual(house.ask(start=0, goal=3, shut=[4])[0], (4, 2))


class ChangeTest(HouseCase):
    def test_by_hand(self):
        house = House(FOUR, ORDER)
        # The arc from 0 to 3 goes over 1 and costs (4, 2), at most (5, 2) over 2.
        for road, length, touched, cost in (
                (0, 1, [], (4, 2)), (0, 0, [(0, 1), (0, 3)], (3, 2)), (0, 9, [(0, 1), (0, 3)], (5, 2)),
                (0, 8, [(0, 1)], (5, 2)), (0, None, [(0, 1)], (5, 2)), (0, None, [], (5, 2)),
                (4, 5, [(0, 3)], (5, 1)), (4, MOST, [(0, 3)], (5, 2)), (2, None, [(0, 2), (0, 3)], (MOST, 1)),
                (4, None, [(0, 3)], None), (5, 0, [(3, 0)], None)):
            with self.subTest(road=road, length=length):
                self.assertEqual(house.change(road, length), touched)
                self.assertEqual(house.length(road), length)
                told = house.ask(0, 3)
                self.assertEqual(told and told[0], cost)

    def test_an_arc_that_comes_and_one_that_goes(self):
        house = House((3, [(0, 1, 5, 1), (1, 2, None, 1)]), [1, 0, 2])
        self.assertEqual(house.change(1, 7), [(0, 2), (1, 2)])
        self.assertEqual(house.change(1, None), [(0, 2), (1, 2)])
        self.assertEqual(house.back(), [(0, 2), (1, 2)])
        self.assertEqual(house.back(), [(0, 2), (1, 2)])

    def test_an_arc_whose_middle_alone_changes_is_not_touched(self):
        # From 0 to 3 over 1 or over 2: the cost stays as it is, the lowest middle becomes another one.
        house = House((4, [(0, 1, 1, 1), (1, 3, 1, 1), (0, 2, 1, 1), (2, 3, 1, 1)]), [1, 2, 0, 3])
        self.assertEqual(house.ladder().middle(0, 3), 1)
        self.assertEqual(house.change(0, 2), [(0, 1)])
        self.assertEqual(house.ladder().middle(0, 3), 2)

    def test_of_equal_lengths_another_count_touches(self):
        house = House((3, [(0, 1, 1, 1), (1, 2, 1, 1), (0, 2, 3, 1)]), [1, 0, 2])
        self.assertEqual(house.ladder().cost(0, 2), (2, 2))
        self.assertEqual(house.change(2, 2), [(0, 2)])
        self.assertEqual(house.ladder().cost(0, 2), (2, 1))

    def test_the_same_length_is_a_change_too(self):
        house = House(FOUR, ORDER)
        self.assertEqual(house.change(0, 1), [])
        self.assertEqual(house.change(5, None), [])
        self.assertEqual(house.changes(), [(0, 1, 1), (5, None, None)])
        self.assertEqual(house.back(), [])
        self.assertEqual(house.changes(), [(0, 1, 1)])
        self.assertEqual(house.told_map(), FOUR)

    def test_each_road_to_each_length(self):
        lengths = (0, 1, 2, 5, MOST, MOST - 1, None)
        for seed, net in enumerate(small_maps(12, 4, 6) + [FOUR]):
            order = orders_of(net, seed)[-1 - seed % 2]
            for number, road in enumerate(net[1]):
                for length in lengths:
                    house = House(net, order)
                    changed = put(net, number, length)
                    self.assertEqual(house.change(number, length), own_touched(net, changed, order))
                    self.assert_house(house, changed, order, [(number, road[2], length)])
                    self.assertEqual(house.back(), own_touched(net, changed, order))
                    self.assert_house(house, net, order, [])

    def test_refused_with_no_road(self):
        house = House(FOUR, ORDER)
        told = house_told(house)
        for road in NO_NUMBERS + (6, 7, 60):
            for length in (5, None) + NO_LENGTHS:
                with self.subTest(road=repr(road)):
                    self.assertRaises(NoRoad, house.change, road, length)
            self.assertRaises(NoRoad, house.length, road)
        self.assertEqual((house_told(house), house.changes()), (told, []))
        for thing in NO_NUMBERS + (0,):
            self.assertRaises(NoRoad, House((2, [])).change, thing, 5)
            self.assertRaises(NoRoad, House((2, [])).length, thing)

    def test_refused_with_no_length(self):
        house = House(FOUR, ORDER)
        house.change(1, 7)
        told = house_told(house)
        for length in NO_LENGTHS:
            for road in range(6):
                with self.subTest(length=repr(length)):
                    self.assertRaises(NoLength, house.change, road, length)
        self.assertEqual((house_told(house), house.changes()), (told, [(1, 3, 7)]))
        self.assertRaises(LadderError, house.change, 0, -1)
        house.back()
        self.assert_house(house, FOUR, ORDER, [])

    def test_lengths_at_the_bounds(self):
        house = House(FOUR, ORDER)
        for length in (0, MOST, None):
            house.change(4, length)
            self.assertEqual(house.length(4), length)
        self.assertEqual(house.changes(), [(4, 6, 0), (4, 0, MOST), (4, MOST, None)])


class BackTest(HouseCase):
    def test_none_to_be_taken_back(self):
        house = House(FOUR, ORDER)
        self.assertRaises(NoDeed, house.back)
        house.change(0, 5)
        house.back()
        for again in range(3):
            self.assertRaises(NoDeed, house.back)
        self.assert_house(house, FOUR, ORDER, [])

    def test_several_in_a_row(self):
        house = House(FOUR, ORDER)
        deeds = [(0, 9), (0, None), (4, 0), (0, 2), (5, 1), (5, 1), (2, MOST), (0, 1)]
        maps, touched = [FOUR], []
        for road, length in deeds:
            maps.append(put(maps[-1], road, length))
            touched.append(house.change(road, length))
        changes = [(road, maps[k][1][road][2], length) for k, (road, length) in enumerate(deeds)]
        for k in range(len(deeds), 0, -1):
            self.assert_house(house, maps[k], ORDER, changes[:k])
            self.assertEqual(house.back(), touched[k - 1])
        self.assert_house(house, FOUR, ORDER, [])
        self.assertRaises(NoDeed, house.back)

    def test_a_change_behind_one_taken_back(self):
        house = House(FOUR, ORDER)
        house.change(0, 5)
        house.change(1, 6)
        house.back()
        house.change(2, 7)
        self.assertEqual(house.changes(), [(0, 1, 5), (2, 2, 7)])
        house.back()
        house.back()
        self.assert_house(house, FOUR, ORDER, [])

    def test_behind_a_question_with_roads_shut(self):
        house = House(FOUR, ORDER)
        touched = house.change(0, 0)
        self.assertEqual(house.ask(0, 3, [0, 2, 4]), None)
        self.assertEqual(house.changes(), [(0, 1, 0)])
        self.assertEqual(house.back(), touched)
        self.assert_house(house, FOUR, ORDER, [])
        house.ask(0, 3, [0])
        self.assertRaises(NoDeed, house.back)

    def test_what_is_told_is_new(self):
        house = House(FOUR, ORDER)
        spoil(house.change(0, 0))
        spoil(house.changes())
        self.assertEqual(house.changes(), [(0, 1, 0)])
        spoil((house.told_map(), house.order(), house.ask(0, 3), house.ask(0, 3, [])))
        self.assert_house(house, put(FOUR, 0, 0), ORDER, [(0, 1, 0)])
        spoil(house.back())
        spoil(house.changes())
        self.assert_house(house, FOUR, ORDER, [])
        lists = lists_within([house.changes(), house.changes(), house.told_map(), house.told_map(), house.order(),
                              house.order(), house.ask(0, 3), house.ask(0, 3), house.ask(3, 3), house.ask(3, 3)])
        self.assertEqual(len(lists), len({id(part) for part in lists}))

    def test_what_is_handed_in_stays(self):
        net, order, shut = copy.deepcopy(FOUR), list(ORDER), [0, 0, 5]
        house = House(net, order)
        house.change(0, 7)
        house.ask(0, 3, shut)
        house.change(1, None)
        house.back()
        self.assertEqual((net, order, shut), (FOUR, ORDER, [0, 0, 5]))
        spoil((net, order, shut))
        net[1].clear()
        order.reverse()
        self.assert_house(house, put(FOUR, 0, 7), ORDER, [(0, 1, 7)])

    def test_two_houses_of_one_map(self):
        net, order = copy.deepcopy(FOUR), list(ORDER)
        one, other = House(net, order), House(net, order)
        third = House(one.told_map(), one.order())
        one.change(0, None)
        third.change(4, 0)
        self.assert_house(other, FOUR, ORDER, [])
        self.assert_house(one, put(FOUR, 0, None), ORDER, [(0, 1, None)])
        self.assert_house(third, put(FOUR, 4, 0), ORDER, [(4, 6, 0)])
        self.assertRaises(NoDeed, other.back)
        self.assertEqual(net, FOUR)

    def test_ladders_asked_for_earlier_stay(self):
        house = House(FOUR, ORDER)
        first = house.ladder()
        house.change(0, 0)
        second = house.ladder()
        told = [ladder_told(first), ladder_told(second)]
        house.change(1, None)
        house.change(4, 0)
        house.ask(0, 3, [0, 1, 2])
        house.back()
        house.back()
        house.back()
        self.assertEqual([ladder_told(first), ladder_told(second)], told)
        self.assertEqual(told, [ladder_told(Ladder(FOUR, ORDER)), ladder_told(Ladder(put(FOUR, 0, 0), ORDER))])
        spoil((first.told_map(), first.order(), first.arcs(), first.kept()))
        self.assert_house(house, FOUR, ORDER, [])


class AskTest(HouseCase):
    def assert_answer(self, net, told, start, goal):
        """The answer is right for the map."""
        costs = cost_table(net)
        if costs[start][goal] is None:
            self.assertIsNone(told)
        else:
            self.assertEqual(told[0], costs[start][goal])
            self.assertEqual(walked(net, start, told[1]), (goal, told[0]))
            self.assertEqual(told[2], [row[goal] for row in costs])
            self.assertTrue(are_right(net, goal, told[2]))

    def test_shut_none_left_out_or_empty(self):
        house = House(FOUR, ORDER)
        right = ((4, 2), [0, 1], [(4, 2), (3, 1), (3, 1), (0, 0)])
        for told in (house.ask(0, 3), house.ask(0, 3, None), house.ask(0, 3, []), house.ask(0, 3, shut=None)):
            self.assertEqual(told, right)

    def test_roads_shut_for_one_question(self):
        house = House(FOUR, ORDER)
        for shut, right in (([0], ((5, 2), [2, 3])), ([1, 3], ((6, 1), [4])), ([0, 0], ((5, 2), [2, 3])),
                            ([5], ((4, 2), [0, 1])), ([5, 5, 0, 5], ((5, 2), [2, 3])), ([2], ((4, 2), [0, 1]))):
            with self.subTest(shut):
                self.assertEqual(house.ask(0, 3, shut)[:2], right)
                self.assertEqual(house.ask(0, 3)[:2], ((4, 2), [0, 1]))
        self.assertIsNone(house.ask(0, 3, [0, 2, 4]))
        self.assertIsNone(house.ask(0, 3, [4, 3, 2, 1, 0, 5] * 33))
        self.assertEqual(house.ask(0, 0, [0, 1, 2, 3, 4, 5]), ((0, 0), [], [(0, 0), None, None, None]))
        self.assert_house(house, FOUR, ORDER, [])

    def test_each_set_of_shut_roads(self):
        for seed, net in enumerate(small_maps(15, 4, 5)):
            house = House(net, orders_of(net, seed)[-1])
            for mask in range(2 ** len(net[1])):
                shut = [k for k in range(len(net[1])) if mask >> k & 1]
                closed = net
                for number in shut:
                    closed = put(closed, number, None)
                for start in range(net[0]):
                    for goal in range(net[0]):
                        told = house.ask(start, goal, shut)
                        self.assert_answer(closed, told, start, goal)
                        self.assertEqual(told, House(closed, house.order()).ask(start, goal))
            self.assertEqual((house.told_map(), house.changes()), (net, []))

    def test_refused_with_no_place(self):
        house = House(FOUR, ORDER)
        told = house_told(house)
        for thing in NO_NUMBERS + (4, 5, 16):
            for shut in (None, [], [0], [6], [None], [True, "0"]):
                with self.subTest(thing=repr(thing), shut=shut):
                    self.assertRaises(NoPlace, house.ask, thing, 3, shut)
                    self.assertRaises(NoPlace, house.ask, 0, thing, shut)
                    self.assertRaises(NoPlace, house.ask, thing, thing, shut)
            self.assertRaises(NoPlace, house.ask, thing, 0)
            self.assertRaises(NoPlace, house.ask, 0, thing)
        self.assertEqual(house_told(house), told)

    def test_refused_with_no_road(self):
        house = House(FOUR, ORDER)
        told = house_told(house)
        for thing in NO_NUMBERS + (6, 7, 60):
            for shut in ([thing], [0, thing], [thing, 0], [0, 1, thing, 2]):
                with self.subTest(shut=repr(shut)):
                    self.assertRaises(NoRoad, house.ask, 0, 3, shut)
                    self.assertRaises(NoRoad, house.ask, 2, 2, shut)
                    self.assertRaises(NoRoad, house.ask, 3, 1, shut)
        self.assertRaises(NoRoad, House((1, [])).ask, 0, 0, [0])
        self.assertEqual((house_told(house), house.changes()), (told, []))


class DeedsTest(HouseCase):
    def one_deed(self, house, net, order, changes, numbers):
        """Does one deed by chance; tells the map and the changes as they should be behind it."""
        chance = numbers.below(8)
        number = numbers.below(len(net[1]))
        if chance < 4:
            length = numbers.one_of((None, 0, 1, 2, 3, 7, 40, MOST, net[1][number][2]))
            behind = put(net, number, length)
            self.assertEqual(house.change(number, length), ladder_touched(net, behind, order))
            return behind, changes + [(number, net[1][number][2], length)]
        if chance < 6 and changes:
            behind = put(net, changes[-1][0], changes[-1][1])
            self.assertEqual(house.back(), ladder_touched(net, behind, order))
            return behind, changes[:-1]
        if chance < 6:
            self.assertRaises(NoDeed, house.back)
        elif chance == 6:
            house.ask(numbers.below(net[0]), numbers.below(net[0]), [number, number])
        else:
            self.assertRaises(NoRoad, house.change, len(net[1]), 1)
            self.assertRaises(NoLength, house.change, number, -1)
            self.assertRaises(NoPlace, house.ask, net[0], 0, [number])
            self.assertRaises(NoRoad, house.ask, 0, 0, [number, -1])
        return net, changes

    def test_many_deeds_on_small_maps(self):
        for seed, net in enumerate(made_map(300 + k, 2 + k % 5, 12) for k in range(24)):
            if net[1]:
                order = orders_of(net, seed)[-1]
                house, changes, numbers = House(net, order), [], Numbers(seed)
                for k in range(25):
                    net, changes = self.one_deed(house, net, order, changes, numbers)
                    self.assertEqual((house.told_map(), house.changes()), (net, changes))
                    if k % 4 == 0:
                        self.assert_house(house, net, order, changes)
                self.assert_house(house, net, order, changes)

    def test_many_deeds_on_large_maps(self):
        edges = ("a ring of sixteen, both ways", "sixty roads of two places")
        nets = large_maps(3) + [told_maps()[name] for name in edges]
        for seed, net in enumerate(nets):
            order = ranked(net)
            house, changes, numbers = House(net), [], Numbers(seed + 50)
            for k in range(20):
                net, changes = self.one_deed(house, net, order, changes, numbers)
                self.assertEqual((house.told_map(), house.order(), house.changes()), (net, order, changes))
            ladder = Ladder(net, order)
            self.assertEqual(house.ladder().arcs(), ladder.arcs())
            for start in range(net[0]):
                goal = numbers.below(net[0])
                self.assertEqual(house.ask(start, goal), ask(ladder, start, goal))

    def test_both_rules_of_the_tests_are_one(self):
        for seed, net in enumerate(small_maps(30, 5, 8)):
            order = orders_of(net, seed)[0]
            for number in range(len(net[1])):
                behind = put(net, number, 1)
                self.assertEqual(own_touched(net, behind, order), ladder_touched(net, behind, order))


if __name__ == "__main__":
    unittest.main()
