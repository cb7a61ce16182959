"""Questions from a start to a goal, answered by climbing a ladder from both ends."""

from nodeladder.climbs import sums_at_tops
from nodeladder.maps import added, least
from nodeladder.many import costs_in


def cost_between(ladder, start, goal):
    return least(list(sums_at_tops(ladder, start, goal).values()))


def arcs_by_prices(ladder, prices, place):
    kept = [arc for arc in ladder.kept() if arc[0] == place]
    return [arc for arc in kept if added(ladder.cost(place, arc[1]), prices[arc[1]]) == prices[place]]


def way_by_prices(ladder, prices, start, goal):
    roads = []
    place = start
    # It comes to the goal: a cheapest way begins with a kept arc, and the price falls with each.
    while place != goal:
        arc = arcs_by_prices(ladder, prices, place)[0]
        roads.extend(ladder.unpacked(arc[0], arc[1]))
        place = arc[1]
    return roads


def ask(ladder, start, goal):
    cost = cost_between(ladder, start, goal)
    if cost is None:
        return None
    prices = costs_in(ladder, goal)
    return (cost, way_by_prices(ladder, prices, start, goal), prices)
