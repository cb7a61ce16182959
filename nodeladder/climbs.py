"""What is climbed from a place and what climbs to one, over the kept arcs of a ladder."""

from nodeladder.maps import added, least


def kept_costs(ladder):
    return dict([((u, w), ladder.cost(u, w)) for u, w in ladder.kept()])


def kept_costs_turned(ladder):
    return dict([((w, u), ladder.cost(u, w)) for u, w in ladder.kept()])


def climbed(order, costs, place):
    reached = {place: (0, 0)}
    # The lowest first: once a place is gone on from, no arc leads to it from below any more.
    for rank, lower in enumerate(order):
        if lower in reached:
            for higher in order[rank + 1:]:
                if (lower, higher) in costs:
                    cost = added(reached[lower], costs[(lower, higher)])
                    reached[higher] = least([reached.get(higher), cost])
    return reached


def climbed_from(ladder, start):
    return climbed(ladder.order(), kept_costs(ladder), start)


def climbing_to(ladder, goal):
    return climbed(ladder.order(), kept_costs_turned(ladder), goal)


def sums_at_tops(ladder, start, goal):
    ahead = climbed_from(ladder, start)
    behind = climbing_to(ladder, goal)
    return dict([(place, added(ahead[place], behind[place])) for place in ahead if place in behind])


def tops(ladder, start, goal):
    sums = sums_at_tops(ladder, start, goal)
    cost = least(list(sums.values()))
    return sorted([place for place in sums if sums[place] == cost])
