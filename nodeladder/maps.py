"""Maps of places and roads, and what roads cost."""

from nodeladder.errors import NoMap


def is_whole_below(thing, bound):
    # To Python a truth is an int, too; here it is no whole number.
    return isinstance(thing, int) and not isinstance(thing, bool) and 0 <= thing < bound


# Lengths of open roads and widths keep to the same bounds.
def is_measure(thing):
    return is_whole_below(thing, 10 ** 60)


def is_road(thing, many):
    if not isinstance(thing, tuple) or len(thing) != 4:
        return False
    if not is_whole_below(thing[0], many) or not is_whole_below(thing[1], many):
        return False
    if thing[0] == thing[1]:
        return False
    return (thing[2] is None or is_measure(thing[2])) and is_measure(thing[3])


def is_map(thing):
    if not isinstance(thing, tuple) or len(thing) != 2:
        return False
    many = thing[0]
    roads = thing[1]
    if not is_whole_below(many, 17) or many == 0:
        return False
    if not isinstance(roads, list) or len(roads) > 60:
        return False
    return all([is_road(road, many) for road in roads])


def checked(thing):
    if not is_map(thing):
        raise NoMap("this is no map")
    return (thing[0], [tuple(road) for road in thing[1]])


def added(one, other):
    if one is None or other is None:
        return None
    return (one[0] + other[0], one[1] + other[1])


def least(some):
    return min([cost for cost in some if cost is not None], default=None)


def road_cost(road):
    if road[2] is None:
        return None
    return (road[2], 1)


def turned(net):
    return (net[0], [(road[1], road[0], road[2], road[3]) for road in net[1]])
