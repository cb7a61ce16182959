"""Plain search: costs from and to a place, last roads, right prices."""

from nodeladder.maps import added, least, road_cost, turned


def costs_from(net, start):
    costs = [None] * net[0]
    costs[start] = (0, 0)
    changed = True
    # It ends: each cost is that of a way, and can't become less without end.
    while changed:
        changed = False
        for road in net[1]:
            cost = least([costs[road[1]], added(costs[road[0]], road_cost(road))])
            if cost != costs[road[1]]:
                costs[road[1]] = cost
                changed = True
    return costs


def costs_to(net, goal):
    return costs_from(turned(net), goal)


def last_roads(net, start):
    costs = costs_from(net, start)
    last = [None] * net[0]
    for number, road in enumerate(net[1]):
        cost = added(costs[road[0]], road_cost(road))
        # No road is a last one of the start: a way with a road in it costs more than [].
        if cost is not None and cost == costs[road[1]] and last[road[1]] is None:
            last[road[1]] = number
    return last


def price_by_roads(net, place, prices):
    return least([added(road_cost(road), prices[road[1]]) for road in net[1] if road[0] == place])


def are_right(net, goal, prices):
    if len(prices) != net[0] or prices[goal] != (0, 0):
        return False
    others = [place for place in range(net[0]) if place != goal]
    return all([prices[place] == price_by_roads(net, place, prices) for place in others])
