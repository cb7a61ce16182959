"""Ladders: the arcs of a map with an order, those that are kept, and the roads under them."""

from nodeladder.arcs import laid_arcs
from nodeladder.errors import NoArc
from nodeladder.maps import checked, is_whole_below, road_cost
from nodeladder.orders import checked_order, ranked
from nodeladder.search import costs_from


def order_or_ranked(net, order):
    if order is None:
        return ranked(net)
    return checked_order(net, order)


def kept_arcs(net, laid):
    kept = []
    for u in range(net[0]):
        costs = costs_from(net, u)
        kept.extend([(u, w) for w in range(net[0]) if (u, w) in laid and laid[(u, w)][0] == costs[w]])
    return kept


def road_under(net, arc, cost):
    numbers = [number for number, road in enumerate(net[1]) if (road[0], road[1]) == arc and road_cost(road) == cost]
    return numbers[0]


class Ladder:
    def __init__(self, net, order=None):
        self.own_map = checked(net)
        self.own_order = order_or_ranked(self.own_map, order)
        self.laid = laid_arcs(self.own_map, self.own_order)
        self.kept_ones = kept_arcs(self.own_map, self.laid)

    def told_map(self):
        return checked(self.own_map)

    def order(self):
        return list(self.own_order)

    def arcs(self):
        return sorted(self.laid)

    def checked_arc(self, u, w):
        many = self.own_map[0]
        # Asked first, as not each thing can be looked up, and to Python True is 1.
        if not is_whole_below(u, many) or not is_whole_below(w, many) or (u, w) not in self.laid:
            raise NoArc("there is no arc from the one to the other")
        return (u, w)

    def cost(self, u, w):
        return self.laid[self.checked_arc(u, w)][0]

    def middle(self, u, w):
        return self.laid[self.checked_arc(u, w)][1]

    def unpacked(self, u, w):
        roads = []
        # The arcs still to be unpacked, the next one last.
        waiting = [self.checked_arc(u, w)]
        while waiting:
            arc = waiting.pop()
            middle = self.laid[arc][1]
            if middle is None:
                roads.append(road_under(self.own_map, arc, self.laid[arc][0]))
            else:
                waiting.append((middle, arc[1]))
                waiting.append((arc[0], middle))
        return roads

    def kept(self):
        return list(self.kept_ones)
