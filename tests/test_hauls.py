import random
import unittest

from hourhaul.bends import bends_of
from hourhaul.carried import brought_by, plan_clean
from hourhaul.closed import most_by
from hourhaul.hauls import best_rounds, rounds_bring, rounds_plan
from samples import (
    BACK, FAR, GREAT, HUGE, NEVER, ODD, PLAIN, grown_net, hours_about, hours_of, only_whole, small_nets, some_nets,
    stood, walks_between,
)

ALL = (PLAIN, BACK, GREAT, ODD) + NEVER


def brought_by_words(net, last, rounds):
    """6.3, hour by hour in which each round is gone."""
    return sum(loads for walk, loads in rounds for hour in range(last + 1) if hour + hours_of(net, walk) <= last)


def plan_by_words(net, last, rounds):
    together = {}
    for walk, loads in rounds:
        for begun in range(last + 1):
            hour = begun
            if begun + hours_of(net, walk) <= last:
                for way in walk:
                    together[(hour, way)] = together.get((hour, way), 0) + loads
                    hour += net[1][way][3]
    return [(hour, way, loads) for (hour, way), loads in sorted(together.items())]


def some_rounds(chance, net):
    """Rounds that fit, of any walks, short and long."""
    walks = walks_between(net, 0, net[0] - 1)
    left = [way[2] for way in net[1]]
    rounds = []
    for _ in range(chance.randint(0, 5) if walks else 0):
        walk = chance.choice(walks)
        room = min(left[way] for way in walk)
        if room > 0:
            rounds.append((walk, chance.randint(1, room)))
            for way in walk:
                left[way] -= rounds[-1][1]
    return rounds


class Best(unittest.TestCase):
    def check(self, net, last):
        rounds = best_rounds(net, last)
        self.assertIs(type(rounds), list)
        self.assertTrue(all(type(told) is tuple and type(told[0]) is tuple and len(told) == 2 for told in rounds))
        self.assertTrue(only_whole(rounds))
        walks = walks_between(net, 0, net[0] - 1)
        for walk, loads in rounds:
            self.assertIn(walk, walks)
            self.assertGreaterEqual(loads, 1)
            self.assertLessEqual(hours_of(net, walk), last)
        for number, way in enumerate(net[1]):
            self.assertLessEqual(sum(loads for walk, loads in rounds if number in walk), way[2])
        brought = sum(loads * (last - hours_of(net, walk) + 1) for walk, loads in rounds)
        self.assertEqual(brought, most_by(net, last), (net, last, rounds))
        self.assertEqual(rounds_bring(net, last, rounds), brought)
        self.assertEqual(best_rounds(net, last), rounds)
        return rounds

    def test_told(self):
        for last in (0, 1, 2):
            self.assertEqual(self.check(PLAIN, last), [])
        for last in (3, 4, 6):
            self.assertEqual(self.check(PLAIN, last), [((0, 1), 4)])
        for last in (7, 8, FAR):
            self.assertEqual(sorted(self.check(PLAIN, last)), [((0, 1), 4), ((2,), 3)])
        self.assertEqual(self.check(BACK, 7), [((0, 1, 2), 2)])
        # the way across is gone no more, from the hour on in which both others bring more
        self.assertEqual(sorted(self.check(BACK, 8)), [((0, 4), 2), ((3, 2), 2)])

    def test_nothing(self):
        for net in NEVER:
            for last in (0, 1, 12, FAR):
                self.assertEqual(self.check(net, last), [])

    def test_about_each_bend(self):
        for net in list(small_nets(300)) + list(some_nets(200)) + list(ALL):
            for last in hours_about([length for length, loads in bends_of(net)]):
                self.check(net, last)

    def test_great_rooms_and_hours(self):
        for net in some_nets(60):
            grown = grown_net(net, 250_000)
            for last in (249_999, 250_000, 10 ** 6, 2 * 10 ** 6 - 1, 5 * 10 ** 6, FAR):
                self.check(grown, last)

    def test_the_told_list_is_the_askers_own(self):
        told = best_rounds(PLAIN, 8)
        kept = list(told)
        told.clear()
        self.assertEqual(best_rounds(PLAIN, 8), kept)


class Bring(unittest.TestCase):
    def check(self, brought, last, rounds, net=PLAIN):
        kept = list(rounds)
        told = rounds_bring(net, last, rounds)
        self.assertEqual(told, brought, (net, last, rounds))
        self.assertTrue(told is None or only_whole(told))
        self.assertEqual(rounds, kept)

    def test_loads_times_hours(self):
        for last, brought in ((0, 0), (2, 0), (3, 4), (4, 8), (6, 16), (7, 23), (8, 30), (FAR, 7 * FAR - 26)):
            self.check(brought, last, [((0, 1), 4), ((2,), 3)])
        self.check(0, 9, [])
        self.check(0, 9, [], (2, ()))

    def test_a_walk_in_several_rounds(self):
        self.check(4, 3, [((0, 1), 1), ((0, 1), 2), ((0, 1), 1)])
        self.check(None, 3, [((0, 1), 1), ((0, 1), 3), ((0, 1), 1)])

    def test_longer_ones_bring_nothing_but_have_to_fit(self):
        self.check(4, 3, [((0, 1), 4), ((2,), 3)])
        self.check(0, 2, [((0, 1), 4), ((2,), 3)])
        self.check(0, 6, [((2,), 3)])
        self.check(3, 7, [((2,), 3)])
        self.check(None, 3, [((0, 1), 4), ((2,), 4)])
        self.check(None, 0, [((2,), 4)])
        self.check(None, 3, [((0, 1), 4), ((2,), 0)])

    def test_one_load_too_many(self):
        self.check(8, 4, [((0, 1), 4)])
        self.check(None, 4, [((0, 1), 5)])
        self.check(None, 4, [((0, 1), HUGE)])
        # over a way that several walks share
        net = (3, ((0, 1, 3, 1), (1, 2, 2, 1), (1, 2, 2, 2)))
        self.check(2, 2, [((0, 1), 2), ((0, 2), 1)], net)
        self.check(5, 3, [((0, 1), 2), ((0, 2), 1)], net)
        self.check(None, 3, [((0, 1), 2), ((0, 2), 2)], net)

    def test_loads_of_nought_and_below(self):
        for loads in (0, -1, -HUGE):
            self.check(None, 9, [((0, 1), loads)])
            self.check(None, 9, [((2,), 1), ((0, 1), loads)])
        self.check(None, 9, [((0, 1), 5), ((0, 1), -1)])

    def test_walks_that_are_none(self):
        for walk in ((), (0,), (1,), (1, 0), (0, 1, 2), (2, 2), (3,), (-1,), (0, -2), (0, HUGE), (-HUGE, 1), (0, 0, 1)):
            self.check(None, 9, [(walk, 1)])
            self.check(None, 0, [(walk, 1)])
            self.check(None, 9, [((0, 1), 1), (walk, 1)])
        for walk in ((4,), (2, 0, 1), (0, 2, 0, 1), (5, 6), (0, 1, 3), (3, 7, 1)):
            self.check(None, 9, [(walk, 1)], ODD)
        self.check(4, 4, [((0, 1), 2)], ODD)
        self.check(None, 9, [((), 1)], (2, ()))

    def test_against_the_words_of_the_document(self):
        chance = random.Random(65)
        both = {True: 0, False: 0}
        for net in small_nets(200):
            for _ in range(6):
                rounds = some_rounds(chance, net)
                for last in (0, 3, 6, 12):
                    self.check(brought_by_words(net, last, rounds), last, rounds, net)
                    self.assertLessEqual(rounds_bring(net, last, rounds), most_by(net, last))
                if rounds:
                    number = chance.randrange(len(rounds))
                    walk, loads = rounds[number]
                    other = rounds[:number] + [(walk, loads + 1)] + rounds[number + 1:]
                    taken = [sum(some for walk, some in other if way in walk) for way in range(len(net[1]))]
                    fits = all(some <= way[2] for some, way in zip(taken, net[1]))
                    self.check(brought_by_words(net, 12, other) if fits else None, 12, other, net)
                    both[fits] += 1
        self.assertGreater(min(both.values()), 10)


class Planned(unittest.TestCase):
    def check(self, net, last, rounds):
        kept = list(rounds)
        plan = rounds_plan(net, last, rounds)
        self.assertEqual(rounds, kept)
        self.assertIs(type(plan), list)
        self.assertTrue(only_whole(plan))
        self.assertEqual(plan, plan_by_words(net, last, rounds))
        self.assertIs(plan_clean(net, last, plan), True, (net, last, rounds, plan))
        self.assertEqual(brought_by(net, plan, last), rounds_bring(net, last, rounds))
        for hour in range(last + 1):
            waits = [stood(net, plan, place, hour) for place in range(1, net[0] - 1)]
            self.assertEqual(waits, [0] * (net[0] - 2))
        self.assertEqual(rounds_plan(net, last, rounds), plan)
        return plan

    def test_told(self):
        for last in range(3):
            self.assertEqual(self.check(PLAIN, last, [((0, 1), 4), ((2,), 3)]), [])
        self.assertEqual(self.check(PLAIN, 3, [((0, 1), 4), ((2,), 3)]), [(0, 0, 4), (2, 1, 4)])
        self.assertEqual(
            self.check(PLAIN, 5, [((0, 1), 4)]), [(0, 0, 4), (1, 0, 4), (2, 0, 4), (2, 1, 4), (3, 1, 4), (4, 1, 4)],
        )
        self.assertEqual(self.check(PLAIN, 7, [((2,), 3)]), [(0, 2, 3)])
        self.assertEqual(self.check(PLAIN, 12, []), [])
        self.assertEqual(self.check((2, ()), 12, []), [])

    def test_loads_of_like_hour_and_way_are_added(self):
        self.assertEqual(self.check(PLAIN, 3, [((0, 1), 1), ((2,), 1), ((0, 1), 3)]), [(0, 0, 4), (2, 1, 4)])
        net = (3, ((0, 1, 3, 1), (1, 2, 2, 1), (1, 2, 2, 2)))
        self.assertEqual(
            self.check(net, 3, [((0, 1), 2), ((0, 2), 1)]), [(0, 0, 3), (1, 0, 2), (1, 1, 2), (1, 2, 1), (2, 1, 2)],
        )

    def test_best_rounds_and_drawn_ones(self):
        chance = random.Random(66)
        for net in list(small_nets(120)) + [PLAIN, BACK, GREAT, ODD]:
            for last in (0, 1, 3, 7, 8, 12):
                plan = self.check(net, last, best_rounds(net, last))
                self.assertEqual(brought_by(net, plan, last), most_by(net, last))
                self.check(net, last, some_rounds(chance, net))

    def test_the_told_list_is_the_askers_own(self):
        told = rounds_plan(PLAIN, 3, [((0, 1), 4)])
        told.clear()
        self.assertEqual(rounds_plan(PLAIN, 3, [((0, 1), 4)]), [(0, 0, 4), (2, 1, 4)])


if __name__ == "__main__":
    unittest.main()
