"""Maps written as texts, and read from them."""

from nodeladder.errors import NoText
from nodeladder.maps import is_map


def is_number(word):
    if not 1 <= len(word) <= 60 or not all([sign in "0123456789" for sign in word]):
        return False
    return word == "0" or word[0] != "0"


def length_shown(length):
    if length is None:
        return "-"
    return str(length)


def road_shown(road):
    return " ".join(["road", str(road[0]), str(road[1]), length_shown(road[2]), str(road[3])])


def map_shown(net):
    many = net[0]
    return "; ".join([f"places {many}"] + [road_shown(road) for road in net[1]])


def words_read(part, first, count):
    words = part.split(" ")
    if words[0] != first or len(words) != count:
        raise NoText("a part of the text is no part of a map")
    return words


def number_read(word):
    if not is_number(word):
        raise NoText("a word of the text is no number")
    return int(word)


def length_read(word):
    if word == "-":
        return None
    return number_read(word)


def road_read(part):
    words = words_read(part, "road", 5)
    return (number_read(words[1]), number_read(words[2]), length_read(words[3]), number_read(words[4]))


def map_read(text):
    if not isinstance(text, str):
        raise NoText("this is no text")
    parts = text.split("; ")
    many = number_read(words_read(parts[0], "places", 2)[1])
    net = (many, [road_read(part) for part in parts[1:]])
    # What is written well may still have too many places or roads, or places that are none.
    if not is_map(net):
        raise NoText("the text writes no map")
    return net
