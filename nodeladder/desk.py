"""The desk: a house of a map, asked and changed by rows of words."""

from nodeladder.asks import cost_between
from nodeladder.climbs import tops
from nodeladder.errors import NoRow
from nodeladder.houses import House, checked_place
from nodeladder.many import nearest
from nodeladder.texts import is_number, map_read, map_shown


def numbers_shown(numbers):
    return " ".join([str(number) for number in numbers])


def places_shown(places):
    if not places:
        return "-"
    return numbers_shown(places)


def cost_shown(cost):
    if cost is None:
        return "none"
    return numbers_shown(cost)


def answer_ask(house, numbers):
    told = house.ask(numbers[0], numbers[1])
    if told is None:
        return "none"
    return " ".join([cost_shown(told[0]), ":"] + [str(number) for number in told[1]])


def both_places(house, numbers):
    net = house.told_map()
    return [checked_place(net, number) for number in numbers]


def answer_cost(house, numbers):
    places = both_places(house, numbers)
    return cost_shown(cost_between(house.ladder(), places[0], places[1]))


def answer_change(house, numbers):
    return str(len(house.change(numbers[0], numbers[1])))


def answer_shut(house, numbers):
    return str(len(house.change(numbers[0], None)))


def answer_back(house, numbers):
    return str(len(house.back()))


def answer_near(house, numbers):
    net = house.told_map()
    start = checked_place(net, numbers[0])
    others = [place for place in range(net[0]) if place != start]
    return places_shown([goal for cost, goal in nearest(house.ladder(), start, others, numbers[1])])


def answer_tops(house, numbers):
    places = both_places(house, numbers)
    return places_shown(tops(house.ladder(), places[0], places[1]))


def answer_show(house, numbers):
    return map_shown(house.told_map())


NUMBERS_BEHIND = {"ask": 2, "cost": 2, "change": 2, "shut": 1, "back": 0, "near": 2, "tops": 2, "show": 0}
ANSWERS = {
    "ask": answer_ask,
    "cost": answer_cost,
    "change": answer_change,
    "shut": answer_shut,
    "back": answer_back,
    "near": answer_near,
    "tops": answer_tops,
    "show": answer_show,
}


def row_words(row):
    if not isinstance(row, str):
        raise NoRow("this is no text")
    words = row.split(" ")
    if words[0] not in NUMBERS_BEHIND or len(words) != 1 + NUMBERS_BEHIND[words[0]]:
        raise NoRow("there is no row of these words")
    if not all([is_number(word) for word in words[1:]]):
        raise NoRow("a word of the row is no number")
    return words


class Desk:
    def __init__(self, text):
        self.house = House(map_read(text))

    def say(self, row):
        words = row_words(row)
        return ANSWERS[words[0]](self.house, [int(word) for word in words[1:]])
