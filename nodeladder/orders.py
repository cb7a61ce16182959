"""Orders of a map's places, from the lowest to the highest."""

from nodeladder.errors import NoOrder
from nodeladder.maps import is_whole_below, road_cost


def is_order(net, thing):
    if not isinstance(thing, list) or len(thing) != net[0]:
        return False
    # Asked first, as things of other kinds may not stand beside numbers in sorted.
    if not all([is_whole_below(place, net[0]) for place in thing]):
        return False
    return sorted(thing) == list(range(net[0]))


def checked_order(net, thing):
    if not is_order(net, thing):
        raise NoOrder("this is no order of the map")
    return list(thing)


def ranks(order):
    told = [0] * len(order)
    for rank, place in enumerate(order):
        told[place] = rank
    return told


def first_bows(net):
    bows = {}
    for road in net[1]:
        if road_cost(road) is not None:
            bows[(road[0], road[1])] = True
    return bows


def missing_bows(bows, left, place):
    ahead = [u for u in left if (u, place) in bows]
    behind = [w for w in left if (place, w) in bows]
    missing = []
    for u in ahead:
        missing.extend([(u, w) for w in behind if u != w and (u, w) not in bows])
    return missing


def lightest(bows, left):
    return min([(len(missing_bows(bows, left, place)), place) for place in left])[1]


def ranked(net):
    bows = first_bows(net)
    left = list(range(net[0]))
    order = []
    while left:
        place = lightest(bows, left)
        for bow in missing_bows(bows, left, place):
            bows[bow] = True
        left.remove(place)
        order.append(place)
    return order
