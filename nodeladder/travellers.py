"""Travellers, and maps as they see them."""


def with_length(road, length):
    return (road[0], road[1], length, road[3])


class Traveller:
    def told(self, road):
        return road[2]


class Wide(Traveller):
    def __init__(self, width):
        self.least_width = width

    def told(self, road):
        if road[3] < self.least_width:
            return None
        return road[2]


class Short(Traveller):
    def __init__(self, length):
        self.most_length = length

    def told(self, road):
        if road[2] is None or road[2] > self.most_length:
            return None
        return road[2]


class Even(Traveller):
    def told(self, road):
        if road[2] is None:
            return None
        return 0


class Pair(Traveller):
    def __init__(self, first, second):
        self.first = first
        self.second = second

    def told(self, road):
        # Pairs may lie within pairs deeper than calls may, so those still to be asked wait here, the next one last.
        waiting = [self.second, self.first]
        length = road[2]
        while waiting and length is not None:
            traveller = waiting.pop()
            if isinstance(traveller, Pair):
                waiting.append(traveller.second)
                waiting.append(traveller.first)
            else:
                length = traveller.told(with_length(road, length))
        return length


def seen(net, traveller):
    return (net[0], [with_length(road, traveller.told(road)) for road in net[1]])
