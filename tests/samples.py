"""Nets and slow, plain answers that several tests hold the program against."""

import random
from itertools import permutations

PLAIN = (3, ((0, 1, 5, 2), (1, 2, 4, 1), (0, 2, 3, 7)))


def some_nets(count):
    chance = random.Random(20)
    for _ in range(count):
        many = chance.randint(2, 6)
        ways = []
        for _ in range(chance.randint(0, 12)):
            start, to = chance.sample(range(many), 2)
            ways.append((start, to, chance.choice((0, 1, 1, 5)), chance.randint(1, 4)))
        yield (many, tuple(ways))


def walks_between(net, start, goal):
    """All walks, by trying every row of unlike places and every way between neighbours."""
    many, ways = net
    if start == goal:
        return [()]
    between = [place for place in range(many) if place not in (start, goal)]
    walks = []
    for length in range(len(between) + 1):
        for middle in permutations(between, length):
            rows = [()]
            row = (start,) + middle + (goal,)
            for here, there in zip(row, row[1:]):
                fitting = [n for n, way in enumerate(ways) if way[:2] == (here, there) and way[2] > 0]
                rows = [old + (n,) for old in rows for n in fitting]
            walks.extend(rows)
    return sorted(walks)


def hours_of(net, walk):
    return sum(net[1][number][3] for number in walk)
