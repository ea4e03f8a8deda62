import random
import unittest

from hourhaul.bends import bends_of
from hourhaul.carried import plan_clean
from hourhaul.chains import chain_length, chains_plan, chains_right, shortest_chains
from hourhaul.closed import most_by
from samples import (
    BACK, FAR, GREAT, HUGE, NEVER, ODD, PLAIN, grown_net, hours_about, only_whole, small_nets, some_nets, stood,
)

ALL = (PLAIN, BACK, GREAT, ODD) + NEVER
ACROSS_STEPS = ((0, True), (1, True), (2, True))
BACK_STEPS = ((3, True), (1, False), (4, True))
# Bends (3, 4): way 1 and way 2 are alike.
TWIN = (4, ((0, 1, 4, 1), (1, 2, 2, 1), (1, 2, 2, 1), (2, 3, 4, 1), (0, 2, 9, 9)))


def hours_by_words(net, steps):
    return sum(net[1][way][3] if forth else -net[1][way][3] for way, forth in steps)


def is_chain_by_words(net, steps, loads):
    places = [0]
    for way, forth in steps:
        if way not in range(len(net[1])):
            return False
        start, to = net[1][way][:2] if forth else net[1][way][1::-1]
        if start != places[-1]:
            return False
        places.append(to)
    return loads >= 1 and places[-1] == net[0] - 1 and len(set(places)) == len(places)


def right_by_words(net, last, chains):
    """8.1 word by word."""
    if not all(is_chain_by_words(net, steps, loads) for steps, loads in chains):
        return False
    taken = [0] * len(net[1])
    lengths = []
    together = {}
    for steps, loads in chains:
        for way, forth in steps:
            taken[way] += loads if forth else -loads
        if not all(0 <= some <= way[2] for some, way in zip(taken, net[1])):
            return False
        lengths.append(hours_by_words(net, steps))
        together[lengths[-1]] = together.get(lengths[-1], 0) + loads
    if lengths != sorted(lengths) or any(length > last for length in lengths):
        return False
    return sorted(together.items()) == [bend for bend in bends_of(net) if bend[0] <= last]


def hours_about_bends(net):
    return hours_about([length for length, loads in bends_of(net)])


def parted(chance, chains):
    """Each chain as several of fewer loads, one behind the other."""
    parts = []
    for steps, loads in chains:
        while loads > 1 and chance.random() < 0.8:
            some = chance.randint(1, loads - 1)
            parts.append((steps, some))
            loads -= some
        parts.append((steps, loads))
    return parts


class Told(unittest.TestCase):
    def check(self, net, last):
        chains = shortest_chains(net, last)
        self.assertIs(type(chains), list)
        for chain in chains:
            self.assertIs(type(chain), tuple)
            self.assertIs(type(chain[0]), tuple)
            self.assertTrue(only_whole([chain[1]] + [way for way, forth in chain[0]]))
            self.assertTrue(all(type(step) is tuple and type(step[1]) is bool for step in chain[0]))
            self.assertEqual(chain_length(net, chain), hours_by_words(net, chain[0]))
        self.assertTrue(right_by_words(net, last, chains), (net, last, chains))
        self.assertIs(chains_right(net, last, chains), True)
        self.assertEqual(shortest_chains(net, last), chains)
        return chains

    def test_told(self):
        for last in (0, 1, 2):
            self.assertEqual(self.check(BACK, last), [])
        for last in (3, 4, 7):
            self.assertEqual(self.check(BACK, last), [(ACROSS_STEPS, 2)])
        for last in (8, 9, FAR):
            self.assertEqual(self.check(BACK, last), [(ACROSS_STEPS, 2), (BACK_STEPS, 2)])
        self.assertEqual(self.check(PLAIN, 6), [(((0, True), (1, True)), 4)])
        self.assertEqual(self.check(PLAIN, 7), [(((0, True), (1, True)), 4), (((2, True),), 3)])

    def test_none(self):
        for net in NEVER:
            for last in (0, 1, FAR):
                self.assertEqual(self.check(net, last), [])

    def test_about_each_bend(self):
        back = 0
        for net in list(small_nets(300)) + list(some_nets(300)) + list(ALL):
            for last in hours_about_bends(net):
                back += any(not forth for steps, loads in self.check(net, last) for way, forth in steps)
        self.assertGreater(back, 100)

    def test_great_rooms_and_hours(self):
        for net in some_nets(60):
            grown = grown_net(net, 250_000)
            for last in hours_about_bends(grown):
                self.check(grown, last)

    def test_the_told_list_is_the_askers_own(self):
        told = shortest_chains(BACK, 8)
        kept = list(told)
        told.clear()
        self.assertEqual(shortest_chains(BACK, 8), kept)


class Lengths(unittest.TestCase):
    def test_forth_and_back(self):
        for net, steps, length in (
            (BACK, ACROSS_STEPS, 3), (BACK, BACK_STEPS, 8), (BACK, ((3, True), (2, True)), 5), (PLAIN, ((2, True),), 7),
            ((4, ((0, 2, 1, 1), (1, 2, 1, 10 ** 6), (1, 3, 1, 2))), ((0, True), (1, False), (2, True)), 3 - 10 ** 6),
            ((2, ((1, 0, 1, 5),)), ((0, False),), -5), ((2, ((0, 1, 0, 10 ** 6),)), ((0, True),), 10 ** 6),
        ):
            for loads in (1, 2, HUGE):
                told = chain_length(net, (steps, loads))
                self.assertEqual(told, length)
                self.assertTrue(only_whole(told))


class Judged(unittest.TestCase):
    def check(self, right, net, last, chains):
        kept = list(chains)
        self.assertIs(chains_right(net, last, chains), right, (net, last, chains))
        self.assertEqual(chains, kept)
        self.assertEqual(right_by_words(net, last, chains), right)

    def test_by_its_hours(self):
        both = [(ACROSS_STEPS, 2), (BACK_STEPS, 2)]
        for last in (8, 9, FAR, HUGE):
            self.check(True, BACK, last, both)
        for last in (7, 3, 2, 0):
            self.check(False, BACK, last, both)
        for last in (3, 7):
            self.check(True, BACK, last, both[:1])
        for last in (2, 0, 8, FAR):
            self.check(False, BACK, last, both[:1])
        for last in (0, 2):
            self.check(True, BACK, last, [])
        self.check(False, BACK, 3, [])
        for net in NEVER:
            self.check(True, net, 12, [])

    def test_parted_into_several(self):
        self.check(True, BACK, 8, [(ACROSS_STEPS, 1), (ACROSS_STEPS, 1), (BACK_STEPS, 1), (BACK_STEPS, 1)])
        self.check(True, BACK, 8, [(ACROSS_STEPS, 1), (ACROSS_STEPS, 1), (BACK_STEPS, 2)])
        self.check(False, BACK, 8, [(ACROSS_STEPS, 1), (BACK_STEPS, 1), (ACROSS_STEPS, 1), (BACK_STEPS, 1)])

    def test_another_order_of_like_lengths(self):
        one, other = ((0, True), (1, True), (3, True)), ((0, True), (2, True), (3, True))
        self.check(True, TWIN, 8, [(one, 2), (other, 2)])
        self.check(True, TWIN, 8, [(other, 2), (one, 2)])
        self.check(True, TWIN, 8, [(other, 1), (one, 1), (other, 1), (one, 1)])
        self.check(False, TWIN, 8, [(one, 3), (other, 1)])

    def test_a_place_twice(self):
        # the last chain comes to places 1 and 2 twice, and takes of each way just what a right one would
        one, ring = ((0, True), (1, True), (3, True)), ((0, True), (2, True), (1, False), (1, True), (3, True))
        self.check(False, TWIN, 8, [(one, 2), (ring, 2)])
        net = (2, ((0, 1, 1, 1), (0, 1, 1, 1)))
        self.check(True, net, 5, [(((0, True),), 1), (((1, True),), 1)])
        self.check(False, net, 5, [(((0, True),), 1), (((1, True), (0, False), (0, True)), 1)])
        self.check(False, net, 5, [(((0, True),), 1), (((0, True), (0, False), (1, True)), 1)])

    def test_not_from_the_begin_to_the_end(self):
        for steps in (
            (), ((0, True),), ((0, True), (1, True)), ((1, True), (2, True)), ((2, True),), ((0, True), (2, True)),
            ((2, True), (1, True), (0, True)), ((0, False), (1, True), (2, True)), ((0, True), (1, True), (2, False)),
        ):
            self.check(False, BACK, 7, [(steps, 2)])
            self.check(False, BACK, 8, [(ACROSS_STEPS, 2), (steps, 2)])
        # out of the end and into the begin, back over both
        net = (2, ((1, 0, 5, 1), (0, 1, 5, 1)))
        self.check(True, net, 5, [(((1, True),), 5)])
        self.check(False, net, 5, [(((0, False),), 5)])
        self.check(False, net, 5, [(((0, True),), 5)])

    def test_what_was_not_sent_is_taken_back(self):
        self.check(False, BACK, 8, [(BACK_STEPS, 2)])
        self.check(False, BACK, 8, [(BACK_STEPS, 2), (ACROSS_STEPS, 2)])
        self.check(False, BACK, 8, [(ACROSS_STEPS, 2), (BACK_STEPS, 3)])
        # all is well in the end, but not at first: both chains are 3 long, one goes back over the other
        net = (4, ((0, 1, 1, 1), (1, 2, 1, 1), (2, 3, 1, 1), (0, 2, 1, 2), (1, 3, 1, 2)))
        first, then = ((0, True), (1, True), (2, True)), ((3, True), (1, False), (4, True))
        self.check(True, net, 3, [(first, 1), (then, 1)])
        self.check(False, net, 3, [(then, 1), (first, 1)])
        self.check(True, net, 3, [(((0, True), (4, True)), 1), (((3, True), (2, True)), 1)])

    def test_loads_of_nought_and_below(self):
        for loads in (0, -1, -HUGE):
            self.check(False, BACK, 7, [(ACROSS_STEPS, loads)])
            self.check(False, BACK, 8, [(ACROSS_STEPS, 2), (BACK_STEPS, 2), (BACK_STEPS, loads)])
            self.check(False, BACK, 8, [(ACROSS_STEPS, 2), (ACROSS_STEPS, loads), (BACK_STEPS, 2)])
            self.check(False, BACK, 2, [(ACROSS_STEPS, loads)])
        self.check(False, TWIN, 8, [(((0, True), (1, True), (3, True)), 2), (((0, True), (2, True), (3, True)), 2),
                                    (((0, True), (1, True), (3, True)), -1), (((0, True), (1, True), (3, True)), 1)])

    def test_lengths_that_fall(self):
        self.check(True, PLAIN, 8, [(((0, True), (1, True)), 4), (((2, True),), 3)])
        self.check(False, PLAIN, 8, [(((2, True),), 3), (((0, True), (1, True)), 4)])
        self.check(False, PLAIN, 8, [(((0, True), (1, True)), 2), (((2, True),), 3), (((0, True), (1, True)), 2)])

    def test_one_too_few_and_one_too_many(self):
        for loads in (1, 3, HUGE):
            self.check(False, BACK, 7, [(ACROSS_STEPS, loads)])
        self.check(False, BACK, 8, [(ACROSS_STEPS, 2), (BACK_STEPS, 1)])
        self.check(False, BACK, 8, [(ACROSS_STEPS, 1), (BACK_STEPS, 1)])
        self.check(False, BACK, 8, [(ACROSS_STEPS, 2), (BACK_STEPS, 2), (((3, True), (2, True)), 1)])
        # walks that fit, but are not shortest
        self.check(False, BACK, 8, [(((3, True), (2, True)), 2), (((0, True), (4, True)), 2)])

    def test_ways_that_are_not_there(self):
        for way in (5, HUGE, -1, -5, -HUGE):
            self.check(False, BACK, 8, [(ACROSS_STEPS, 2), (((3, True), (1, False), (way, True)), 2)])
        # way -3 isn't way 2
        self.check(False, BACK, 7, [(((0, True), (1, True), (-3, True)), 2)])
        self.check(False, (2, ()), 5, [(((0, True),), 1)])

    def test_told_ones_parted_and_spoilt(self):
        chance = random.Random(81)
        seen = {True: 0, False: 0}
        for net in list(small_nets(200)) + list(some_nets(100)):
            for last in (3, 6, 9, 12):
                chains = parted(chance, shortest_chains(net, last))
                self.check(True, net, last, chains)
                for _ in range(4 if chains else 0):
                    number = chance.randrange(len(chains))
                    steps, loads = chains[number]
                    way, forth = chance.choice(steps)
                    other = chance.choice((
                        (steps, loads + 1), (steps, loads - 1), (steps[1:], loads), (steps[:-1], loads),
                        (tuple((some, not gone) if some == way else (some, gone) for some, gone in steps), loads),
                        (tuple((chance.randrange(len(net[1])), gone) for some, gone in steps), loads),
                    ))
                    spoilt = chains[:number] + [other] + chains[number + 1:]
                    shuffled = chance.sample(chains, len(chains))
                    for tried in (spoilt, shuffled, chains[:number] + chains[number + 1:], chains + [chains[number]]):
                        right = right_by_words(net, last, tried)
                        self.check(right, net, last, tried)
                        seen[right] += 1
        self.assertGreater(min(seen.values()), 300)


class Planned(unittest.TestCase):
    def check(self, net, last, chains):
        kept = list(chains)
        plan = chains_plan(net, last, chains)
        self.assertEqual(chains, kept)
        self.assertIs(type(plan), list)
        self.assertTrue(only_whole(plan))
        self.assertTrue(all(loads >= 1 for hour, way, loads in plan))
        self.assertIs(plan_clean(net, last, plan), True, (net, last, chains, plan))
        for hour in range(last + 1):
            self.assertEqual([stood(net, plan, place, hour) for place in range(1, net[0] - 1)], [0] * (net[0] - 2))
            self.assertEqual(stood(net, plan, net[0] - 1, hour), most_by(net, hour), (net, last, hour))
        self.assertEqual(chains_plan(net, last, chains), plan)
        return plan

    def test_a_way_gone_back(self):
        chains = [(ACROSS_STEPS, 2), (BACK_STEPS, 2)]
        self.assertEqual(self.check(BACK, 3, chains[:1]), [(0, 0, 2), (1, 1, 2), (2, 2, 2)])
        # way 1 is gone in hours 1 to 6 by the first; in hour 3 nothing goes in, as the second goes back in hour 4
        self.assertEqual(self.check(BACK, 8, chains), sorted(
            [(hour, 0, 2) for hour in range(6)] + [(hour, 1, 2) for hour in (1, 2, 4, 5, 6)]
            + [(hour, 2, 2) for hour in range(2, 8)] + [(0, 3, 2), (3, 4, 2)]
        ))
        # two hours of the first are taken back, one of them in part
        plan = self.check(BACK, 9, [(ACROSS_STEPS, 2), (BACK_STEPS, 1), (BACK_STEPS, 1)])
        self.assertNotIn((3, 1), [triple[:2] for triple in plan])
        self.assertNotIn((4, 1), [triple[:2] for triple in plan])

    def test_nothing(self):
        for net in NEVER:
            for last in (0, 12):
                self.assertEqual(self.check(net, last, []), [])
        self.assertEqual(self.check(BACK, 2, []), [])

    def test_told_ones_by_each_hour(self):
        backs = 0
        for net in list(small_nets(150)) + list(some_nets(150)) + list(ALL):
            for last in range(13):
                chains = shortest_chains(net, last)
                self.check(net, last, chains)
                backs += any(not forth for steps, loads in chains for way, forth in steps)
        self.assertGreater(backs, 100)

    def test_other_chains_that_are_shortest(self):
        chance = random.Random(82)
        for net in list(small_nets(100)):
            for last in (5, 9, 12):
                chains = parted(chance, shortest_chains(net, last))
                self.check(net, last, chains)
                shuffled = sorted(chance.sample(chains, len(chains)), key=lambda chain: hours_by_words(net, chain[0]))
                if right_by_words(net, last, shuffled):
                    self.check(net, last, shuffled)

    def test_the_told_list_is_the_askers_own(self):
        chains = [(ACROSS_STEPS, 2)]
        told = chains_plan(BACK, 3, chains)
        told.clear()
        self.assertEqual(chains_plan(BACK, 3, chains), [(0, 0, 2), (1, 1, 2), (2, 2, 2)])


if __name__ == "__main__":
    unittest.main()
