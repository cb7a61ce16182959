import itertools
import unittest

from nodeladder.maps import added, least, road_cost

MOST = 10 ** 60 - 1
COSTS = ((0, 0), (0, 1), (0, 7), (1, 0), (1, 1), (5, 2), (5, 3), (6, 0), (MOST, 1), (MOST, 60), (60 * MOST, 60))


class AddedTest(unittest.TestCase):
    def test_part_by_part(self):
        self.assertEqual(added((5, 2), (30, 4)), (35, 6))
        self.assertEqual(added((0, 0), (0, 0)), (0, 0))
        self.assertEqual(added((0, 1), (7, 0)), (7, 1))
        self.assertEqual(added((MOST, 1), (MOST, 1)), (2 * MOST, 2))

    def test_every_pair(self):
        for one, other in itertools.product(COSTS, COSTS):
            with self.subTest(one=one, other=other):
                told = added(one, other)
                self.assertIsInstance(told, tuple)
                self.assertEqual(told, (one[0] + other[0], one[1] + other[1]))

    def test_none_with_anything_is_none(self):
        self.assertIsNone(added(None, None))
        for cost in COSTS:
            with self.subTest(cost):
                self.assertIsNone(added(None, cost))
                self.assertIsNone(added(cost, None))


class LeastTest(unittest.TestCase):
    def test_the_lesser_length_first(self):
        self.assertEqual(least([(4, 1), (3, 9)]), (3, 9))
        self.assertEqual(least([(3, 9), (4, 1)]), (3, 9))
        self.assertEqual(least([(10, 1), (9, 1)]), (9, 1))
        self.assertEqual(least([(0, 60), (1, 0)]), (0, 60))

    def test_of_equal_lengths_the_lesser_count(self):
        self.assertEqual(least([(3, 4), (3, 2), (3, 3)]), (3, 2))
        self.assertEqual(least([(3, 10), (3, 9)]), (3, 9))

    def test_one_alone_and_alike(self):
        self.assertEqual(least([(3, 4)]), (3, 4))
        self.assertEqual(least([(0, 0)]), (0, 0))
        self.assertEqual(least([(3, 4), (3, 4)]), (3, 4))

    def test_none_is_greater_than_each_cost(self):
        self.assertEqual(least([None, (3, 4)]), (3, 4))
        self.assertEqual(least([(3, 4), None]), (3, 4))
        self.assertEqual(least([None, (60 * MOST, 60), None]), (60 * MOST, 60))
        self.assertEqual(least([None, (4, 1), None, (3, 9), None]), (3, 9))

    def test_none_where_there_is_none(self):
        self.assertIsNone(least([]))
        self.assertIsNone(least([None]))
        self.assertIsNone(least([None, None, None]))

    def test_every_three(self):
        rising = sorted(COSTS)
        for some in itertools.product(rising + [None], repeat=3):
            with self.subTest(some):
                there = [cost for cost in rising if cost in some]
                self.assertEqual(least(list(some)), there[0] if there else None)

    def test_the_list_stays(self):
        for some in ([], [None], [(4, 1), None, (3, 9), (3, 2)], [(9, 9), (1, 1)]):
            with self.subTest(some):
                kept = list(some)
                least(some)
                self.assertEqual(some, kept)


class RoadCostTest(unittest.TestCase):
    def test_an_open_road(self):
        for length in (0, 1, 5, MOST):
            for width in (0, 1, MOST):
                with self.subTest(length=length, width=width):
                    told = road_cost((0, 1, length, width))
                    self.assertIsInstance(told, tuple)
                    self.assertEqual(told, (length, 1))

    def test_a_shut_road(self):
        for width in (0, 1, MOST):
            with self.subTest(width):
                self.assertIsNone(road_cost((3, 2, None, width)))


if __name__ == "__main__":
    unittest.main()
