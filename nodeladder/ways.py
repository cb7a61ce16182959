"""Ways over the roads of a map, and what they cost."""

from nodeladder.errors import NoWay
from nodeladder.maps import added, is_whole_below, road_cost


def led_to(net, place, number):
    # Python would take a number below 0 as counted from the end.
    if not is_whole_below(number, len(net[1])):
        raise NoWay("there is no road of this number")
    road = net[1][number]
    if road[0] != place:
        raise NoWay("the road does not lead on from there")
    if road_cost(road) is None:
        raise NoWay("the road is shut")
    return road[1]


def places_of(net, start, roads):
    places = [start]
    for number in roads:
        places.append(led_to(net, places[-1], number))
    return places


def walked(net, start, roads):
    place = start
    cost = (0, 0)
    for number in roads:
        place = led_to(net, place, number)
        cost = added(cost, road_cost(net[1][number]))
    return (place, cost)
