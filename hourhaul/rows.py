"""The rows that a desk is told: a word, and numbers behind it, each within its bounds [14.3], [14.4]."""

from hourhaul.errors import NoRow
from hourhaul.kinds import is_rising, whole_within
from hourhaul.nets import MOST_HOURS, MOST_ROOM
from hourhaul.sums import LAST_PLANNED
from hourhaul.texts import read_numbers

FARTHEST = 2_000_000_000_000_000_000
MOST_LOADS = 1_000_000_000_000_000_000
MOST_STORE = 1_000_000_000_000
# Above all numbers that can be written: which ways there are is asked later.
MOST_WRITTEN = 1_000_000_000_000_000_000_000_000_000_000


# The rows that ask for the same numbers in every net; None for other words.
def plain_bounds(word):
    hour = (0, FARTHEST)
    loads = (1, MOST_LOADS)
    way = (0, MOST_WRITTEN)
    bounds = {
        "less": (way,),
        "room": (way, (0, MOST_ROOM)),
        "turn": (),
        "back": (),
        "tell": (),
        "most": (hour,),
        "gain": (hour,),
        "bends": (),
        "soonest": (loads,),
        "coming": (loads,),
        "plan": ((0, LAST_PLANNED),),
        "both": (hour,),
        "worth": (way, hour),
        "loss": (way, hour),
    }
    return bounds.get(word)


# Of `from` as many places are asked for as there are, but one at least.
def row_bounds(net, word, count):
    place = (0, net[0] - 1)
    if word == "way":
        return (place, place, (0, MOST_ROOM), (1, MOST_HOURS))
    if word == "from":
        return ((0, FARTHEST),) + ((0, net[0] - 2),) * max(1, count - 1)
    if word == "all":
        return ((0, MOST_STORE),) * (net[0] - 1)
    return plain_bounds(word)


def within_bounds(bounds, numbers):
    if bounds is None or len(numbers) != len(bounds):
        return False
    return all([whole_within(number, bound[0], bound[1]) for number, bound in zip(numbers, bounds)])


# Asked where each number is within its bounds: how they have to stand to each other.
def stand_right(word, numbers):
    if word == "way":
        return numbers[0] != numbers[1]
    return word != "from" or is_rising(numbers[1:])


def read_row(net, row):
    if not isinstance(row, str):
        raise NoRow("what is said is a text")
    words = row.split(" ")
    numbers = read_numbers(words[1:])
    if not within_bounds(row_bounds(net, words[0], len(numbers)), numbers) or not stand_right(words[0], numbers):
        raise NoRow("this is none of the rows")
    return (words[0], numbers)
