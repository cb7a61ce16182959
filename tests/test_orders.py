import copy
import itertools
import unittest

from helper import Numbers, beyond_map, every_map, small_maps, spoil, told_maps
from nodeladder.errors import NoOrder
from nodeladder.orders import checked_order, ranked, ranks


def some_orders():
    """Each order of up to five places, and some of sixteen."""
    orders = [list(order) for many in range(1, 6) for order in itertools.permutations(range(many))]
    wide = list(range(16))
    return orders + [wide, wide[::-1], wide[8:] + wide[:8]] + [Numbers(seed).mixed(wide) for seed in range(10)]


def no_orders():
    """Things that are no order of a map with three places."""
    wrong = {
        "a place twice": [0, 1, 1],
        "a place twice, one too many": [0, 1, 2, 2],
        "one thrice": [2, 2, 2],
        "one too many": [0, 1, 2, 3],
        "one too few": [0, 1],
        "one too few, without 0": [1, 2],
        "none": [],
        "from 1 on": [1, 2, 3],
        "within another list": [[0, 1, 2]],
        "a tuple": (0, 1, 2),
        "a text": "012",
        "a dict": {0: 0, 1: 1, 2: 2},
        "an empty dict": {},
        "a set": {0, 1, 2},
        "a number": 3,
        "a walk": iter([0, 1, 2]),
        "a range": range(3),
        "a class": list,
        "bytes": bytes([0, 1, 2]),
    }
    for thing in (None, True, False, 0, -1, 1.5, "", "abc", (), set(), frozenset([0, 1, 2]), object(), len):
        wrong[f"the thing {thing!r}"] = thing
    for item in (3, 4, -1, -2, -3, 10 ** 60, True, False, None, "1", "", [1], [], (1,), {}, {1}, 1.0, object()):
        for place in range(3):
            order = [0, 1, 2]
            order[place] = item
            wrong[f"{item!r} at {place}"] = order
            wrong[f"{item!r} at {place}, the others turned"] = order[::-1]
    wrong["truths for 0 and 1"] = [False, True, 2]
    wrong["only lists"] = [[], [], []]
    wrong["only None"] = [None, None, None]
    return wrong


class CheckedOrderTest(unittest.TestCase):
    def test_orders(self):
        for order in some_orders():
            net = (len(order), [])
            kept = list(order)
            told = checked_order(net, order)
            self.assertEqual(told, kept)
            self.assertEqual(order, kept)
            self.assertIs(told.__class__, list)

    def test_the_roads_do_not_count(self):
        for net in told_maps().values():
            for order in (list(range(net[0])), list(range(net[0]))[::-1]):
                self.assertEqual(checked_order(net, order), order)

    def test_what_is_told_is_new(self):
        for order in some_orders():
            kept = list(order)
            told = checked_order((len(order), []), order)
            self.assertIsNot(told, order)
            self.assertIsNot(checked_order((len(order), []), order), told)
            told.append("one more")
            self.assertEqual(order, kept)
            order.clear()
            self.assertEqual(told, kept + ["one more"])

    def test_no_orders_are_refused(self):
        for name, thing in no_orders().items():
            with self.subTest(name):
                with self.assertRaises(NoOrder):
                    checked_order((3, [(0, 1, 5, 1)]), thing)

    def test_an_order_of_another_count_of_places_is_refused(self):
        for many in range(1, 17):
            for length in range(18):
                order = list(range(length))
                with self.subTest(many=many, length=length):
                    if many == length:
                        self.assertEqual(checked_order((many, []), order), order)
                    else:
                        with self.assertRaises(NoOrder):
                            checked_order((many, []), order)

    def test_every_short_list_of_numbers(self):
        for many in range(1, 4):
            for length in range(5):
                for numbers in itertools.product(range(-2, 5), repeat=length):
                    order = list(numbers)
                    if sorted(order) == list(range(many)):
                        self.assertEqual(checked_order((many, []), order), order)
                    else:
                        with self.assertRaises(NoOrder, msg=(many, order)):
                            checked_order((many, []), order)

    def test_one_place(self):
        self.assertEqual(checked_order((1, []), [0]), [0])
        for thing in ([], [1], [0, 0], [False], [None], ["0"], [-1], (0,), 0):
            with self.subTest(thing):
                with self.assertRaises(NoOrder):
                    checked_order((1, []), thing)

    def test_of_sixteen_places(self):
        wide = list(range(16))
        for wrong in (wide[:-1], wide[1:], wide + [16], wide + [15], wide[:-1] + [16], wide[:-1] + [14],
                      [0] + wide[:-1], wide[:-1] + [-1], wide[:-1] + ["15"], [False] + wide[1:]):
            with self.subTest(wrong):
                with self.assertRaises(NoOrder):
                    checked_order((16, []), wrong)

    def test_what_is_refused_stays(self):
        for name, thing in no_orders().items():
            if isinstance(thing, (list, dict)):
                with self.subTest(name):
                    kept = list(thing)
                    net = (3, [(0, 1, 5, 1)])
                    with self.assertRaises(NoOrder):
                        checked_order(net, thing)
                    self.assertEqual(list(thing), kept)
                    self.assertEqual(net, (3, [(0, 1, 5, 1)]))


class RanksTest(unittest.TestCase):
    def test_one_order(self):
        self.assertEqual(ranks([0]), [0])
        self.assertEqual(ranks([2, 0, 1]), [1, 2, 0])
        self.assertEqual(ranks([1, 2, 3, 0]), [3, 0, 1, 2])

    def test_how_many_are_below(self):
        for order in some_orders():
            kept = list(order)
            told = ranks(order)
            self.assertEqual(told, [len(order[:order.index(place)]) for place in range(len(order))])
            self.assertEqual(order, kept)

    def test_what_is_told_is_new(self):
        for order in ([0], [0, 1], [0, 1, 2, 3], [3, 1, 0, 2]):
            kept = list(order)
            told = ranks(order)
            self.assertIsNot(told, order)
            right = list(told)
            told.append("one more")
            self.assertEqual(order, kept)
            self.assertEqual(ranks(order), right)


def own_ranked(net):
    """The ranked order, step by step as point 13 tells it."""
    bows = {(one, other) for one, other, length, width in net[1] if length is not None}
    left, order = set(range(net[0])), []
    while left:
        coming = {}
        for v in left:
            coming[v] = {(u, w) for u, w in itertools.permutations(left - {v}, 2)
                         if (u, v) in bows and (v, w) in bows and (u, w) not in bows}
        least_weight = min(len(pairs) for pairs in coming.values())
        lightest = min(v for v in left if len(coming[v]) == least_weight)
        order.append(lightest)
        left -= {lightest}
        bows |= coming[lightest]
    return order


class RankedTest(unittest.TestCase):
    def test_no_road(self):
        for many in (1, 2, 3, 16):
            self.assertEqual(ranked((many, [])), list(range(many)))
            self.assertEqual(ranked((many, [(k, k + 1, None, 1) for k in range(many - 1)])), list(range(many)))

    def test_places_of_equal_weight_by_their_number(self):
        # Each place of a ring both ways weighs 2.
        ring = [(k, (k + 1) % 4, 1, 1) for k in range(4)]
        self.assertEqual(ranked((4, ring + [(road[1], road[0], 1, 1) for road in ring])), [0, 1, 2, 3])
        # In a ring one way each weighs 1, also when three are left.
        self.assertEqual(ranked((4, ring)), [0, 1, 2, 3])
        self.assertEqual(ranked((4, [(road[1], road[0], 1, 1) for road in ring])), [0, 1, 2, 3])

    def test_the_middle_of_a_star_comes_late(self):
        both_ways = [(0, k, 1, 1) for k in range(1, 5)] + [(k, 0, 1, 1) for k in range(1, 5)]
        self.assertEqual(ranked((5, both_ways)), [1, 2, 3, 0, 4])
        self.assertEqual(ranked((4, [(1, 0, 1, 1), (2, 0, 1, 1), (0, 3, 1, 1)])), [1, 2, 0, 3])

    def test_a_pair_there_and_back_does_not_weigh(self):
        # 0 lies between 1 and itself alone: pairs are of unlike places.
        self.assertEqual(ranked((3, [(0, 1, 1, 1), (1, 0, 1, 1), (1, 2, 1, 1)])), [0, 1, 2])

    def test_a_bow_that_is_there_does_not_weigh(self):
        row = [(1, 0, 1, 1), (0, 2, 1, 1)]
        self.assertEqual(ranked((3, row)), [1, 0, 2])
        self.assertEqual(ranked((3, row + [(1, 2, 99, 1)])), [0, 1, 2])
        self.assertEqual(ranked((3, row + [(1, 2, None, 1)])), [1, 0, 2])

    def test_bows_that_come_count_later(self):
        # Without the bows (3, 2) and (2, 3), which come behind 0, the place 2 would weigh less than 1.
        roads = [(3, 0, 1, 1), (0, 3, 1, 1), (0, 2, 1, 1), (2, 0, 1, 1)]
        roads += [(2, 4, 1, 1), (4, 2, 1, 1), (1, 3, 1, 1), (3, 1, 1, 1), (1, 4, 1, 1), (4, 1, 1, 1)]
        self.assertEqual(ranked((5, roads)), [0, 1, 2, 3, 4])
        self.assertEqual(own_ranked((5, roads)), [0, 1, 2, 3, 4])

    def test_several_roads_between_the_same_places_are_one_bow(self):
        row = [(1, 0, 1, 1), (1, 0, 2, 1), (1, 0, 1, 1), (0, 2, 1, 1), (0, 2, 5, 1), (3, 2, 1, 1), (2, 4, 1, 1)]
        self.assertEqual(ranked((5, row)), own_ranked((5, row)))
        self.assertEqual(ranked((5, row)), ranked((5, row[1:2] + row[3:4] + row[5:])))

    def test_the_rule_step_by_step(self):
        for net in every_map() + small_maps(300, 8, 24):
            self.assertEqual(ranked(net), own_ranked(net), net)

    def test_somewhat_beyond_the_bounds(self):
        net = beyond_map()
        order = ranked(net)
        self.assertEqual(order, own_ranked(net))
        self.assertEqual(checked_order(net, order), order)
        self.assertEqual([order[rank] for rank in ranks(order)], list(range(net[0])))

    def test_it_is_an_order_and_hangs_on_no_length(self):
        for net in every_map():
            order = ranked(net)
            self.assertEqual(checked_order(net, order), order)
            others = [(one, other, None if length is None else 7, 0) for one, other, length, width in net[1]]
            self.assertEqual(ranked((net[0], others[::-1])), order)

    def test_what_is_handed_in_stays_and_what_is_told_is_new(self):
        for name, net in told_maps().items():
            with self.subTest(name):
                handed = copy.deepcopy(net)
                told = ranked(handed)
                kept = list(told)
                self.assertEqual(handed, net)
                spoil(told)
                again = ranked(handed)
                self.assertEqual(again, kept)
                spoil(handed)
                self.assertEqual(again, kept)


if __name__ == "__main__":
    unittest.main()
