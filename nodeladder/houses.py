"""Houses: a map whose lengths change, with an order that stays."""

from nodeladder.arcs import arc_costs
from nodeladder.asks import ask
from nodeladder.errors import NoDeed, NoLength, NoPlace, NoRoad
from nodeladder.ladders import Ladder, order_or_ranked
from nodeladder.maps import checked, is_measure, is_whole_below
from nodeladder.travellers import with_length


def checked_place(net, thing):
    if not is_whole_below(thing, net[0]):
        raise NoPlace("this is no place of the map")
    return thing


def checked_road(net, thing):
    if not is_whole_below(thing, len(net[1])):
        raise NoRoad("this is no number of a road")
    return thing


def checked_length(thing):
    if thing is not None and not is_measure(thing):
        raise NoLength("this is no length")
    return thing


def with_lengths(net, lengths):
    return (net[0], [with_length(road, lengths.get(number, road[2])) for number, road in enumerate(net[1])])


def shut_lengths(net, shut):
    if shut is None:
        return {}
    return dict([(checked_road(net, thing), None) for thing in shut])


def touched(ahead, behind):
    return [arc for arc in sorted(set(ahead) | set(behind)) if ahead.get(arc) != behind.get(arc)]


class House:
    def __init__(self, net, order=None):
        self.own_map = checked(net)
        self.own_order = order_or_ranked(self.own_map, order)
        self.done = []

    def told_map(self):
        return checked(self.own_map)

    def order(self):
        return list(self.own_order)

    def ladder(self):
        return Ladder(self.own_map, self.own_order)

    def length(self, road):
        return self.own_map[1][checked_road(self.own_map, road)][2]

    def put_length(self, road, length):
        ahead = arc_costs(self.own_map, self.own_order)
        self.own_map = with_lengths(self.own_map, {road: length})
        return touched(ahead, arc_costs(self.own_map, self.own_order))

    def change(self, road, length):
        deed = (checked_road(self.own_map, road), self.length(road), checked_length(length))
        self.done.append(deed)
        return self.put_length(road, length)

    def back(self):
        if not self.done:
            raise NoDeed("there is no change to be taken back")
        deed = self.done.pop()
        return self.put_length(deed[0], deed[1])

    def changes(self):
        return list(self.done)

    def ask(self, start, goal, shut=None):
        checked_place(self.own_map, start)
        checked_place(self.own_map, goal)
        net = with_lengths(self.own_map, shut_lengths(self.own_map, shut))
        return ask(Ladder(net, self.own_order), start, goal)
