import re
import unittest

from helper import MOST, NO_NUMBERS, Numbers, large_maps, made_map, small_maps, told_maps
from nodeladder.asks import cost_between
from nodeladder.climbs import tops
from nodeladder.desk import Desk
from nodeladder.errors import LadderError, NoDeed, NoPlace, NoRoad, NoRow, NoText
from nodeladder.houses import House
from nodeladder.many import nearest
from nodeladder.texts import map_shown
from nodeladder.ways import walked

TEXT = "places 5; road 0 1 5 1; road 1 2 7 1; road 0 2 20 1; road 2 3 - 9; road 2 0 0 1"
NET = (5, [(0, 1, 5, 1), (1, 2, 7, 1), (0, 2, 20, 1), (2, 3, None, 9), (2, 0, 0, 1)])

NUMBER = "(0|[1-9][0-9]{0,59})"
ROW = re.compile(f"(ask|cost|change|near|tops) {NUMBER} {NUMBER}|shut {NUMBER}|back|show")


def own_answer(house, row):
    """What a desk answers to a row that is one, by a house of the same map."""
    word, numbers = row.split()[0], [int(word) for word in row.split()[1:]]
    if word == "ask":
        told = house.ask(*numbers)
        return "none" if told is None else " ".join(["%d %d :" % told[0]] + ["%d" % road for road in told[1]])
    if word == "change":
        return "%d" % len(house.change(*numbers))
    if word == "shut":
        return "%d" % len(house.change(numbers[0], None))
    if word == "back":
        return "%d" % len(house.back())
    if word == "show":
        return map_shown(house.told_map())
    many = house.told_map()[0]
    if any(number >= many for number in (numbers[:1] if word == "near" else numbers)):
        raise NoPlace
    if word == "cost":
        told = cost_between(house.ladder(), *numbers)
        return "none" if told is None else "%d %d" % told
    if word == "near":
        others = [place for place in range(many) if place != numbers[0]]
        places = [goal for cost, goal in nearest(house.ladder(), numbers[0], others, numbers[1])]
    else:
        places = tops(house.ladder(), *numbers)
    return " ".join(map(str, places)) or "-"


class DeskTest(unittest.TestCase):
    def assert_said(self, desk, rows):
        for row, right in rows:
            with self.subTest(row):
                told = desk.say(row)
                self.assertIs(told.__class__, str)
                self.assertEqual(told, right)

    def test_made_of_a_text(self):
        self.assertEqual(Desk(TEXT).say("show"), TEXT)
        self.assertEqual(Desk(text="places 1").say(row="show"), "places 1")
        for thing in NO_NUMBERS + ("places 0", "places 17", "places 1 ", "places 1; road 0 0 1 1", NET, (1, []), 1):
            with self.subTest(repr(thing)):
                self.assertRaises(NoText, Desk, thing)

    def test_ask(self):
        self.assert_said(Desk(TEXT), (
            ("ask 0 1", "5 1 : 0"), ("ask 0 2", "12 2 : 0 1"), ("ask 1 0", "7 2 : 1 4"), ("ask 2 1", "5 2 : 4 0"),
            ("ask 0 0", "0 0 :"), ("ask 3 3", "0 0 :"), ("ask 0 3", "none"), ("ask 4 0", "none"), ("ask 3 4", "none")))

    def test_cost(self):
        self.assert_said(Desk(TEXT), (
            ("cost 0 1", "5 1"), ("cost 0 2", "12 2"), ("cost 2 0", "0 1"), ("cost 4 4", "0 0"), ("cost 0 3", "none"),
            ("cost 3 0", "none")))

    def test_change_shut_and_back(self):
        desk, house = Desk(TEXT), House(NET)
        self.assert_said(desk, (
            ("change 3 4", str(len(house.change(3, 4)))), ("cost 0 3", "16 3"), ("ask 0 3", "16 3 : 0 1 3"),
            ("shut 1", str(len(house.change(1, None)))), ("ask 0 3", "24 2 : 2 3"),
            ("show", "places 5; road 0 1 5 1; road 1 2 - 1; road 0 2 20 1; road 2 3 4 9; road 2 0 0 1"),
            ("shut 1", "0"), ("back", "0"), ("back", str(len(house.back()))), ("ask 0 3", "16 3 : 0 1 3"),
            ("change 1 7", "0"), ("back", "0"), ("back", str(len(house.back()))), ("show", TEXT)))
        self.assertRaises(NoDeed, desk.say, "back")

    def test_how_many_arcs_are_touched(self):
        # In the ranked order, 0, 1, 2, the arcs between 1 and 2 may go over 0.
        desk = Desk("places 3; road 1 0 1 1; road 0 1 5 1; road 1 2 7 1; road 2 1 1 1; road 0 2 1 1; road 2 0 1 1")
        self.assert_said(desk, (
            ("change 4 50", "2"), ("change 1 1", "1"), ("change 0 0", "1"), ("change 0 0", "0"), ("change 5 9", "1"),
            ("shut 4", "1"), ("shut 2", "1"), ("back", "1"), ("back", "1"), ("back", "1"), ("back", "0"), ("back", "1"),
            ("back", "1"), ("back", "2")))

    def test_the_greatest_length(self):
        desk = Desk(TEXT)
        desk.say("change 0 " + "9" * 60)
        self.assert_said(desk, (("cost 0 1", f"{MOST} 1"), ("ask 0 1", f"{MOST} 1 : 0"), ("change 0 0", "2"),
                                ("show", TEXT.replace("0 1 5 1", "0 1 0 1"))))
        desk.say("shut 4")
        desk.say("change 0 " + "9" * 60)
        desk.say("change 1 " + "9" * 60)
        desk.say("shut 2")
        self.assertEqual(desk.say("ask 0 2"), f"{2 * MOST} 2 : 0 1")

    def test_near(self):
        self.assert_said(Desk(TEXT), (
            ("near 0 0", "-"), ("near 0 1", "1"), ("near 0 2", "1 2"), ("near 0 3", "1 2"), ("near 2 5", "0 1"),
            ("near 2 1", "0"), ("near 3 9", "-"), ("near 4 1", "-"), ("near 0 " + "9" * 60, "1 2"),
            ("near 3 0", "-")))
        self.assert_said(Desk("places 12; road 5 11 2 0; road 5 9 2 0; road 5 10 1 0"), (
            ("near 5 9", "10 9 11"), ("near 5 2", "10 9"), ("near 5 1", "10")))

    def test_tops(self):
        self.assertEqual(House(NET).order(), [1, 0, 2, 3, 4])
        self.assert_said(Desk(TEXT), (
            ("tops 0 1", "0"), ("tops 0 2", "2"), ("tops 1 0", "2"), ("tops 2 1", "2"), ("tops 3 3", "3"),
            ("tops 0 3", "-"), ("tops 4 0", "-")))

    def test_tops_with_blanks_between(self):
        # Places 0 and 1 are the lowest two, and the ways over 2 and over 3 cost alike.
        roads = [(0, 2, 1, 1), (0, 3, 1, 1), (2, 1, 1, 1), (3, 1, 1, 1), (2, 3, 9, 1), (3, 2, 9, 1)]
        house = House((4, roads))
        self.assertEqual(house.order()[:2], [0, 1])
        self.assertEqual(Desk(map_shown((4, roads))).say("tops 0 1"), "2 3")

    def test_one_place(self):
        self.assert_said(Desk("places 1"), (
            ("ask 0 0", "0 0 :"), ("cost 0 0", "0 0"), ("near 0 3", "-"), ("tops 0 0", "0"), ("show", "places 1")))

    def test_the_order_stays_that_of_the_map_at_first(self):
        net = (3, [(1, 0, 1, 1), (0, 2, 1, 1)])
        desk = Desk(map_shown(net))
        house = House(net, [1, 0, 2])
        self.assertEqual(desk.say("shut 1"), str(len(house.change(1, None))))
        self.assertEqual(desk.say("tops 1 0"), "0")
        self.assertEqual(desk.say("back"), str(len(house.back())))
        desk = Desk(map_shown((3, [(1, 0, 1, 1), (0, 2, None, 1)])))
        # Opened, the road makes 0 heavier; in the order of the map at first it is still the lowest.
        self.assertEqual(desk.say("change 1 1"), "2")
        self.assertEqual(desk.say("tops 1 0"), "1")

    def test_desks_beside_one_another(self):
        one, other = Desk(TEXT), Desk(TEXT)
        one.say("shut 0")
        self.assertEqual(other.say("show"), TEXT)
        self.assertRaises(NoDeed, other.say, "back")
        self.assertEqual(one.say("ask 0 1"), "none")


class RefusedTest(unittest.TestCase):
    def setUp(self):
        self.desk = Desk(TEXT)
        self.desk.say("change 0 6")
        self.shown = TEXT.replace("0 1 5 1", "0 1 6 1")

    def assert_refused(self, error, row):
        with self.subTest(repr(row)):
            with self.assertRaises(error) as caught:
                self.desk.say(row)
            self.assertIs(caught.exception.__class__, error)
            self.assertEqual(self.desk.say("show"), self.shown)

    def tearDown(self):
        # The one change is still there, and the last one.
        self.assertEqual(self.desk.say("show"), self.shown)
        self.desk.say("back")
        self.assertEqual(self.desk.say("show"), TEXT)
        self.assertRaises(NoDeed, self.desk.say, "back")

    def test_other_words(self):
        for row in ("", "x", "asks 0 1", "Ask 0 1", "ASK 0 1", "0 1", "0 ask 1", "open 0", "length 0", "order", "map",
                    "quit", "close 0", "none", "-", ":", "change 0 -", "change 0 None", "shut -", "ask 0 x", "ask - 0",
                    "ask a b", "near 0 all", "back back", "show; show", "show;", "ask 0 1; show", "told_map", "say"):
            self.assert_refused(NoRow, row)

    def test_too_few_or_too_many(self):
        for word, count in (("ask", 2), ("cost", 2), ("change", 2), ("shut", 1), ("back", 0), ("near", 2), ("tops", 2),
                            ("show", 0)):
            for many in range(6):
                if many != count:
                    self.assert_refused(NoRow, " ".join([word] + ["0"] * many))

    def test_blanks_and_line_ends(self):
        for row in ("ask 0 1", "cost 0 1", "change 0 1", "shut 0", "back", "near 0 1", "tops 0 1", "show"):
            for changed in (" " + row, row + " ", row.replace(" ", "  ", 1), row[::-1].replace(" ", "  ", 1)[::-1],
                            row.replace(" ", "\t", 1), row + "\n", "\n" + row, row + "\t", row.replace(" ", "\n", 1),
                            row + "\r\n", row.replace(" ", "", 1), row + ";", row.upper(), row.title()):
                if changed != row:
                    self.assert_refused(NoRow, changed)
        self.assert_refused(NoRow, " ")
        self.assert_refused(NoRow, "\n")

    def test_numbers(self):
        for word in ("00", "01", "007", "+1", "-1", "-0", "+0", "", "1.0", "1e1", "0x1", "1_0", "one", "None", "True",
                     "1" * 61, "0" * 60, "0" * 61, "1\n", "\t1", "-", "--"):
            for row in (f"ask {word} 0", f"ask 0 {word}", f"cost {word} 0", f"cost 0 {word}", f"change {word} 0",
                        f"change 0 {word}", f"shut {word}", f"near {word} 0", f"near 0 {word}", f"tops {word} 0",
                        f"tops 0 {word}"):
                self.assert_refused(NoRow, row)

    def test_things_that_are_no_texts(self):
        for thing in NO_NUMBERS + (0, 1, ["show"], ("show",), b"show", {"show": 1}, ["ask", 0, 1], ("ask", 0, 1)):
            self.assert_refused(NoRow, thing)
        self.assertRaises(LadderError, self.desk.say, None)

    def test_no_place(self):
        for number in ("5", "6", "16", "9" * 60):
            for row in (f"ask {number} 0", f"ask 0 {number}", f"ask {number} {number}", f"cost {number} 0",
                        f"cost 0 {number}", f"cost {number} {number}", f"tops {number} 0", f"tops 0 {number}",
                        f"tops {number} {number}", f"near {number} 0", f"near {number} 1", f"near {number} {number}"):
                self.assert_refused(NoPlace, row)

    def test_no_road(self):
        for number in ("5", "6", "60", "9" * 60):
            for row in (f"change {number} 0", f"change {number} {number}", f"shut {number}"):
                self.assert_refused(NoRoad, row)
        self.assertRaises(NoRoad, Desk("places 1").say, "shut 0")
        self.assertRaises(NoRoad, Desk("places 1").say, "change 0 0")

    def test_no_row_comes_first(self):
        for row in ("ask 9 x", "ask 9", "cost 9 9 9", "change 9 -1", "change 9 01", "shut 99 1", "near 9 -1",
                    "tops 9  9"):
            self.assert_refused(NoRow, row)

    def test_no_deed(self):
        desk = Desk(TEXT)
        self.assertRaises(NoDeed, desk.say, "back")
        desk.say("shut 0")
        desk.say("back")
        self.assertRaises(NoDeed, desk.say, "back")
        self.assertEqual(desk.say("show"), TEXT)


class ManyRowsTest(unittest.TestCase):
    def said_by_chance(self, net, numbers):
        """A row that mostly is one, with numbers that mostly are right."""
        places, roads = net[0] + (numbers.below(12) == 0), len(net[1]) + (numbers.below(12) == 0)
        place, other, road = numbers.below(places), numbers.below(places), numbers.below(roads or 1)
        return numbers.one_of((
            f"ask {place} {other}", f"ask {place} {other}", f"cost {place} {other}", f"tops {place} {other}",
            f"near {place} {numbers.below(6)}", f"change {road} {numbers.one_of((0, 1, 5, 40, MOST))}",
            f"change {road} {numbers.below(9)}", f"shut {road}", "back", "show",
            f"ask {place}  {other}", f"shut 0{place}"))

    def assert_alike(self, net, seed, count):
        desk, house, numbers = Desk(map_shown(net)), House(net), Numbers(seed)
        for k in range(count):
            row = self.said_by_chance(net, numbers)
            if ROW.fullmatch(row):
                try:
                    right = own_answer(house, row)
                except LadderError as error:
                    self.assertRaises(error.__class__, desk.say, row)
                else:
                    self.assertEqual(desk.say(row), right, row)
                    if row.startswith("ask") and right != "none":
                        self.assert_way(house.told_map(), row, right)
            else:
                self.assertRaises(NoRow, desk.say, row)
            self.assertEqual(desk.say("show"), map_shown(house.told_map()))

    def assert_way(self, net, row, said):
        start, goal = map(int, row.split()[1:])
        cost, roads = said.split(" :")
        told = walked(net, start, [int(number) for number in roads.split()])
        self.assertEqual(told, (goal, tuple(map(int, cost.split()))))

    def test_small_maps(self):
        for seed, net in enumerate(small_maps(40, 6, 12)):
            self.assert_alike(net, seed, 30)

    def test_large_maps(self):
        nets = large_maps(3) + [made_map(77, 16, 60)] + [told_maps()[name] for name in (
            "a ring of sixteen, both ways", "sixty roads of two places", "sixteen places, shut roads only")]
        for seed, net in enumerate(nets):
            self.assert_alike(net, 100 + seed, 40)


if __name__ == "__main__":
    unittest.main()
