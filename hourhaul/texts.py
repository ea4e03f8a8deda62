"""Nets and plans written as texts, and read of them [14.1], [14.2]."""

from hourhaul.errors import NoText
from hourhaul.kinds import whole_within
from hourhaul.nets import LEAST_PLACES, MOST_PLACES, MOST_WAYS, is_way

FIGURES = "0123456789"
MOST_FIGURES = 30
NO_TRIPLES = "-"


def way_text(way):
    start = way[0]
    to = way[1]
    room = way[2]
    hours = way[3]
    return f"{start}-{to} {room} {hours}"


def net_text(net):
    many = net[0]
    return "; ".join([f"net {many}"] + [way_text(way) for way in net[1]])


def triple_text(triple):
    return ":".join([str(number) for number in triple])


def plan_text(plan):
    if len(plan) == 0:
        return NO_TRIPLES
    return " ".join([triple_text(triple) for triple in plan])


# Python itself would also read signs, blanks, noughts ahead and figures of other scripts.
def read_number(word):
    if not 1 <= len(word) <= MOST_FIGURES or not all([sign in FIGURES for sign in word]):
        return None
    if word[0] == "0" and word != "0":
        return None
    return int(word)


# Words that are no numbers are read as None, which is never within bounds.
def read_numbers(words):
    return tuple([read_number(word) for word in words])


def read_many(piece):
    words = piece.split(" ")
    many = read_number(words[-1])
    return many if words[:-1] == ["net"] and whole_within(many, LEAST_PLACES, MOST_PLACES) else None


def read_way(many, piece):
    words = piece.split(" ")
    way = read_numbers(words[0].split("-") + words[1:])
    return way if words[0].count("-") == 1 and is_way(many, way) else None


def text_pieces(thing, between):
    if not isinstance(thing, str):
        raise NoText(-1)
    return thing.split(between)


def read_net(thing):
    pieces = text_pieces(thing, "; ")
    many = read_many(pieces[0])
    if many is None:
        raise NoText(0)
    ways = []
    for at, piece in enumerate(pieces[1:], start=1):
        way = read_way(many, piece)
        if way is None or at > MOST_WAYS:
            raise NoText(at)
        ways.append(way)
    return (many, tuple(ways))


def is_triple(numbers):
    return len(numbers) == 3 and None not in numbers and numbers[1] < MOST_WAYS and numbers[2] >= 1


def read_plan(thing):
    pieces = text_pieces(thing, " ")
    if pieces[0] == NO_TRIPLES and len(pieces) > 1:
        raise NoText(1)
    if pieces[0] == NO_TRIPLES:
        return []
    plan = []
    ahead = ()
    for at, piece in enumerate(pieces):
        triple = read_numbers(piece.split(":"))
        if not is_triple(triple) or triple[:2] <= ahead:
            raise NoText(at)
        plan.append(triple)
        ahead = triple[:2]
    return plan
