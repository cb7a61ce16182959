"""What several tests need: many maps, and searches of another make than the program's own."""

import itertools

MOST = 10 ** 60 - 1

# Some lengths stand twice, so that they come more often.
LENGTHS = (
    (0, 1, 2, 3, 5, None),
    (0, 0, 1, None),
    (0, None),
    (1, 1, 2),
    (7, 20, 33, 41, 58, 64),
    (MOST, MOST - 1, MOST - 2, 1, 0, None),
)

# Between 0 and 3 the way over 1 costs (4, 2), that over 2 costs (5, 2), the road (6, 1).
FOUR = (4, [(0, 1, 1, 1), (1, 3, 3, 1), (0, 2, 2, 1), (2, 3, 3, 1), (0, 3, 6, 1), (3, 0, None, 1)])

# Of these nothing is a map, an order of four places, a number of a place or a road.
NO_MAPS = (None, 0, "places 1", [], (), (1,), (1, [], []), [1, []], (0, []), (17, []), (True, []), (1, ()), (1, None),
           (2, [(0, 0, 1, 1)]), (2, [(0, 2, 1, 1)]), (2, [(0, 1, -1, 1)]), (2, [(0, 1, MOST + 1, 1)]),
           (2, [(0, 1, 1, None)]), (2, [[0, 1, 1, 1]]), (2, [(0, 1, 1)]), (2, [(0, 1, 1, 1)] * 61), {}, object())
NO_ORDERS = ([], [0, 1, 2], [0, 1, 2, 3, 4], [0, 1, 2, 2], [1, 2, 3, 4], [0, 1, 2, -1], [0, True, 2, 3],
             [False, 1, 2, 3], (0, 1, 2, 3), "0123", 0, 3, False, True, {}, {0: 0, 1: 1, 2: 2, 3: 3}, [None] * 4,
             [0, 1, 2, None], [0, 1, 2, [3]], [0, 1, 2, "3"], [0, 1, 2, 3.0], range(4), [[0, 1, 2, 3]], object())
NO_NUMBERS = (-1, -4, -10 ** 69, 10 ** 69, True, False, None, "0", "", [], [0], (), (0,), (0, 1), {}, {0: 1}, {0}, 0.0,
              1.0, b"0", object(), int)


class Numbers:
    """Numbers that look like chance, and are the same each time."""

    def __init__(self, seed):
        self.state = (seed * 2654435761 + 12345) % 2 ** 64

    def below(self, bound):
        self.state = (self.state * 6364136223846793005 + 1442695040888963407) % 2 ** 64
        return (self.state >> 33) % bound

    def one_of(self, things):
        return things[self.below(len(things))]

    def mixed(self, things):
        left = list(things)
        return [left.pop(self.below(len(left))) for thing in things]


def made_map(seed, places, most_roads):
    """A map of so many places; some of them several times joined, some not at all."""
    numbers = Numbers(seed)
    lengths = numbers.one_of(LENGTHS)
    roads = []
    for k in range(numbers.below(most_roads + 1) if places > 1 else 0):
        if roads and numbers.below(6) == 0:
            one, other = numbers.one_of(roads)[:2]
        else:
            one, other = numbers.mixed(range(places))[:2]
        roads.append((one, other, numbers.one_of(lengths), numbers.below(5)))
    return (places, roads)


def small_maps(count, most_places=5, most_roads=10):
    return [made_map(seed, 1 + seed % most_places, most_roads) for seed in range(count)]


def large_maps(count):
    return [made_map(1000 + seed, 16 - seed % 4, 60) for seed in range(count)]


def told_maps():
    """Maps at the edges that the document names."""
    shut = [(0, 1, None, 0), (1, 2, None, 7), (2, 0, None, MOST)]
    ring = [(k, (k + 1) % 16, 0, 1) for k in range(16)]
    return {
        "one place": (1, []),
        "two places, no road": (2, []),
        "sixteen places, no road": (16, []),
        "shut roads only": (3, shut),
        "sixteen places, shut roads only": (16, [(k, (k + 1) % 16, None, 1) for k in range(16)]),
        "several roads between the same places": (
            3, [(0, 1, 5, 1), (0, 1, 4, 1), (0, 1, None, 1), (0, 1, 4, 9), (1, 2, 4, 1), (1, 2, 3, 1), (1, 0, 3, 1)]),
        "roads of length 0": (4, [(0, 1, 0, 1), (1, 2, 0, 1), (0, 2, 0, 1), (2, 3, 0, 1)]),
        "a ring of length 0": (3, [(0, 1, 0, 1), (1, 2, 0, 1), (2, 0, 0, 1)]),
        "a ring of length 0 off the road": (4, [(0, 1, 0, 1), (1, 0, 0, 1), (1, 2, 0, 1), (2, 1, 0, 1), (3, 0, 2, 1)]),
        "a ring of sixteen, length 0": (16, ring),
        "a ring of sixteen, both ways": (16, ring + [(road[1], road[0], 1, 1) for road in ring]),
        "a row of sixteen of the greatest length": (16, [(k, k + 1, MOST, MOST) for k in range(15)]),
        "lengths that differ by 1 near the greatest": (
            4, [(0, 1, MOST, 0), (1, 3, MOST, 0), (0, 2, MOST, 0), (2, 3, MOST - 1, 0), (0, 3, MOST, 0)]),
        "equal lengths, unlike counts": (5, [(0, 1, 2, 1), (1, 2, 2, 1), (2, 4, 2, 1), (0, 3, 3, 1), (3, 4, 3, 1)]),
        "a place that is only left": (3, [(0, 1, 1, 1), (0, 2, 1, 1)]),
        "sixty roads of two places": (2, [(k % 2, 1 - k % 2, 59 - k, k) for k in range(60)]),
    }


def beyond_map():
    """A map somewhat beyond the bounds of point 4, that nothing but the check refuses."""
    places, roads = made_map(42, 19, 60)
    return (places, roads + [(k, (k + 7) % 19, 10 ** 61 + k, 10 ** 60) for k in range(19)] + [(18, 0, 10 ** 60, 0)] * 2)


def every_map():
    return list(told_maps().values()) + small_maps(150) + large_maps(25)


def ways_from(net, start):
    """Each way from start that comes to no place twice, as tuples (places, cost)."""
    found = [((start,), (0, 0))]
    for places, cost in found:
        for one, other, length, width in net[1]:
            if one == places[-1] and other not in places and length is not None:
                found.append((places + (other,), (cost[0] + length, cost[1] + 1)))
    return found


def least_of(costs):
    return min((cost for cost in costs if cost is not None), default=None)


def summed(one, other):
    return None if None in (one, other) else (one[0] + other[0], one[1] + other[1])


def cost_table(net):
    """The costs from each place to each, by opening one place between after another."""
    places = range(net[0])
    table = [[(0, 0) if one == other else None for other in places] for one in places]
    for one, other, length, width in net[1]:
        if length is not None:
            table[one][other] = least_of([table[one][other], (length, 1)])
    for over, one, other in itertools.product(places, repeat=3):
        ahead, behind = table[one][over], table[over][other]
        if ahead is not None and behind is not None:
            table[one][other] = least_of([table[one][other], summed(ahead, behind)])
    return table


def orders_of(net, seed):
    """Each order of up to four places, else some."""
    places = list(range(net[0]))
    if net[0] <= 4:
        return [list(order) for order in itertools.permutations(places)]
    return [places, places[::-1]] + [Numbers(seed + k).mixed(places) for k in range(3)]


def maps_with_orders(small, large):
    """Tuples (map, order): the maps at the edges, so many small and so many large ones, each with several orders."""
    nets = list(told_maps().values()) + small_maps(small, 6, 12) + large_maps(large)
    nets += [made_map(700 + places, places, 3 * places) for places in range(6, 17) if large]
    return [(net, order) for seed, net in enumerate(nets) for order in orders_of(net, seed)]


def own_arcs_by_tables(net, order):
    """The arcs and their costs: a table for each two ends, with the places below them alone."""
    costs = {}
    for u, w in itertools.permutations(range(net[0]), 2):
        below = order[:min(order.index(u), order.index(w))] + [u, w]
        roads = [road for road in net[1] if road[0] in below and road[1] in below]
        cost = cost_table((net[0], roads))[u][w]
        if cost is not None:
            costs[u, w] = cost
    return costs


def own_kept(net, order):
    """The kept arcs and their costs, as point 14 tells them."""
    costs = cost_table(net)
    return {(u, w): cost for (u, w), cost in own_arcs_by_tables(net, order).items() if cost <= costs[u][w]}


def lists_within(thing):
    """Each list and each dict in a thing, itself among them."""
    if isinstance(thing, dict):
        return [thing] + [found for pair in thing.items() for part in pair for found in lists_within(part)]
    if isinstance(thing, (list, tuple)):
        parts = [found for part in thing for found in lists_within(part)]
        return [thing] + parts if isinstance(thing, list) else parts
    return []


def spoil(thing):
    """Changes each list and each dict of a thing."""
    for part in lists_within(thing):
        if isinstance(part, dict):
            part["spoiled"] = True
        else:
            part.append("spoiled")
