"""Many costs at once, by sweeps down a ladder, and what is nearest, within a length, and between."""

from nodeladder.climbs import climbed, kept_costs, kept_costs_turned
from nodeladder.maps import added, least


def swept(order, costs, place):
    reached = climbed(order, costs, place)
    told = [None] * len(order)
    higher = []
    # The highest first: a cheapest way climbs to its top, and all that comes behind it leads down.
    for lower in reversed(order):
        over = [added(told[high], costs.get((high, lower))) for high in higher]
        told[lower] = least([reached.get(lower)] + over)
        higher.append(lower)
    return told


def costs_out(ladder, start):
    return swept(ladder.order(), kept_costs(ladder), start)


def costs_in(ladder, goal):
    return swept(ladder.order(), kept_costs_turned(ladder), goal)


def costs_at(costs, places):
    return [costs[place] for place in places]


def table(ladder, starts, goals):
    return [costs_at(costs_out(ladder, start), goals) for start in starts]


def nearest(ladder, start, goals, most=1):
    costs = costs_out(ladder, start)
    found = [(costs[goal], goal) for goal in sorted(set(goals)) if costs[goal] is not None]
    return sorted(found)[:most]


def within(ladder, start, length):
    costs = costs_out(ladder, start)
    return [place for place, cost in enumerate(costs) if cost is not None and cost[0] <= length]


def between(ladder, start, goal):
    ahead = costs_out(ladder, start)
    behind = costs_in(ladder, goal)
    # Asked first, as sums of None would pass for the cost where there is no way.
    if ahead[goal] is None:
        return []
    return [place for place, cost in enumerate(ahead) if added(cost, behind[place]) == ahead[goal]]
