"""The arcs of a map with an order, what they cost and their middles."""

from nodeladder.maps import added, road_cost


def cost_so_far(laid, pair):
    if pair not in laid:
        return None
    return laid[pair][0]


def lay(laid, pair, cost, middle):
    # Only what costs less comes in: of equal ones a road stays, else the lowest middle.
    if cost is not None and (pair not in laid or cost < laid[pair][0]):
        laid[pair] = (cost, middle)


def lay_over(laid, place, higher):
    for u in higher:
        for w in higher:
            if u != w:
                cost = added(cost_so_far(laid, (u, place)), cost_so_far(laid, (place, w)))
                lay(laid, (u, w), cost, place)


def laid_arcs(net, order):
    laid = {}
    for road in net[1]:
        lay(laid, (road[0], road[1]), road_cost(road), None)
    # The lowest first: once all places below it are done, the arcs from and to a place from above are whole.
    for rank, place in enumerate(order):
        lay_over(laid, place, order[rank + 1:])
    return laid


def arc_costs(net, order):
    laid = laid_arcs(net, order)
    return dict([(pair, laid[pair][0]) for pair in laid])


def middles(net, order):
    laid = laid_arcs(net, order)
    return dict([(pair, laid[pair][1]) for pair in laid])
