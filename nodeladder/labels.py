"""Labels of places: hubs with their costs, and where two labels meet."""

from nodeladder.many import costs_in, costs_out
from nodeladder.maps import added


def lies_over(costs, known, hub):
    return any([added(costs[higher], row[hub]) == costs[hub] for higher, row in known])


def label_by(ladder, place, costs_of):
    costs = costs_of(ladder, place)
    label = []
    known = []
    # It is enough to ask hubs told already: the highest place between is always one of them.
    for hub in reversed(ladder.order()):
        if costs[hub] is not None and not lies_over(costs, known, hub):
            label.append((hub, costs[hub]))
            known.append((hub, costs_of(ladder, hub)))
    return label


def label_out(ladder, place):
    return label_by(ladder, place, costs_out)


def label_into(ladder, place):
    return label_by(ladder, place, costs_in)


def met(out, into):
    costs = dict(into)
    sums = [(added(cost, costs[hub]), hub) for hub, cost in out if hub in costs]
    best = None
    for cost, hub in sums:
        if best is None or cost < best[0]:
            best = (cost, hub)
    return best
