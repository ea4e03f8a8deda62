import random
import unittest

from hourhaul.bends import bends_of
from hourhaul.closed import closed_hours, closed_sum, most_by
from samples import (
    BACK, FAR, G, GREAT, HUGE, NEVER, ODD, PLAIN, grown_net, hours_about, most_by_hours, most_by_trying, only_whole,
    small_nets, some_nets, tiny_nets,
)

ALL = (PLAIN, BACK, GREAT, ODD) + NEVER


def sum_by_words(net, closed):
    """6.2, way by way."""
    total = 0
    for start, to, room, hours in net[1]:
        more = closed[to] - (closed[start] + hours)
        total += room * more if more > 0 else 0
    return total


def hours_about_bends(net):
    return hours_about([length for length, loads in bends_of(net)])


class Most(unittest.TestCase):
    def check(self, net, last, most):
        told = most_by(net, last)
        self.assertEqual(told, most, (net, last))
        self.assertTrue(only_whole(told))

    def test_about_each_bend(self):
        # bends (3, 4), (7, 3)
        for last, most in ((0, 0), (1, 0), (2, 0), (3, 4), (4, 8), (6, 16), (7, 23), (8, 30), (9, 37), (100, 674)):
            self.check(PLAIN, last, most)
        # bends (3, 2), (8, 2)
        for last, most in ((0, 0), (2, 0), (3, 2), (4, 4), (7, 10), (8, 14), (9, 18)):
            self.check(BACK, last, most)
        for last, most in ((0, 0), (2, 0), (3, 2), (4, 4), (5, 6)):
            self.check(ODD, last, most)

    def test_far_hours(self):
        self.check(PLAIN, FAR, 4 * (FAR - 2) + 3 * (FAR - 6))
        self.check(PLAIN, FAR - 1, 4 * (FAR - 3) + 3 * (FAR - 7))
        self.check(GREAT, FAR, FAR - 2 + (G - 1) * (FAR - 4) + (G - 1) * (FAR - 5) + FAR - 7)
        self.check((2, ((0, 1, G, 10 ** 6),) * 12), FAR, 12 * G * (FAR - 10 ** 6 + 1))
        for last, most in ((10 ** 6 - 1, 0), (10 ** 6, 12 * G), (10 ** 6 + 1, 24 * G)):
            self.check((2, ((0, 1, G, 10 ** 6),) * 12), last, most)

    def test_nothing_where_the_end_is_never_come_to(self):
        for net in NEVER:
            for last in (0, 1, 2, 12, FAR):
                self.check(net, last, 0)

    def test_the_sum_over_bends(self):
        for net in small_nets(120):
            for last in hours_about_bends(net):
                most = sum(loads * (last - length + 1) for length, loads in bends_of(net) if length <= last)
                self.check(net, last, most)

    def test_the_best_of_all_right_plans(self):
        brought = 0
        for net in tiny_nets(200):
            for last in range(6):
                most = most_by_trying(net, last)
                self.check(net, last, most)
                brought += most > 0
        self.assertGreater(brought, 300)

    def test_place_by_place_and_hour_by_hour(self):
        for net in list(small_nets(150)) + list(some_nets(150)) + list(ALL):
            for last in range(13):
                self.check(net, last, most_by_hours(net, last))


class Told(unittest.TestCase):
    def check(self, net, last):
        closed = closed_hours(net, last)
        self.assertIs(type(closed), list)
        self.assertTrue(only_whole(closed))
        self.assertEqual(len(closed), net[0])
        self.assertEqual((closed[0], closed[-1]), (0, last + 1))
        self.assertTrue(all(0 <= hour <= last + 1 for hour in closed), closed)
        self.assertEqual(sum_by_words(net, closed), most_by(net, last), (net, last, closed))
        self.assertEqual(closed_sum(net, last, closed), most_by(net, last))
        self.assertEqual(closed_hours(net, last), closed)
        return closed

    def test_their_sum_is_just_the_most(self):
        for net in ALL:
            for last in hours_about_bends(net):
                self.check(net, last)

    def test_nets_at_each_hour(self):
        for net in list(small_nets(300)) + list(some_nets(300)):
            for last in hours_about_bends(net):
                self.check(net, last)

    def test_full_ways_hide_places_from_the_begin(self):
        net = (4, ((0, 1, 1, 1), (1, 2, 1, 1), (2, 3, 1, 1)))
        for last in range(8):
            self.check(net, last)

    def test_great_rooms_and_hours(self):
        for net in some_nets(80):
            grown = grown_net(net, 250_000)
            for last in hours_about_bends(grown):
                self.check(grown, last)

    def test_the_told_list_is_the_askers_own(self):
        told = closed_hours(BACK, 8)
        kept = list(told)
        told.clear()
        self.assertEqual(closed_hours(BACK, 8), kept)


class Sums(unittest.TestCase):
    def check(self, total, net, last, closed):
        kept = list(closed)
        told = closed_sum(net, last, closed)
        self.assertEqual(told, total, (net, last, closed))
        self.assertTrue(told is None or only_whole(told))
        self.assertEqual(closed, kept)

    def test_sums(self):
        # by 8: ways 0 -> 1 of 2 hours, 1 -> 2 of 1, 0 -> 2 of 7, rooms 5, 4, 3
        for middle, total in ((0, 38), (1, 34), (2, 30), (3, 31), (8, 36), (9, 41)):
            self.check(total, PLAIN, 8, [0, middle, 9])
        self.check(0, PLAIN, 0, [0, 0, 1])
        self.check(0, PLAIN, 0, [0, 1, 1])

    def test_the_begins_nought_and_the_ends_hour_after_the_last(self):
        self.check(30, PLAIN, 8, [0, 2, 9])
        for closed in ([1, 2, 9], [-1, 2, 9], [0, 2, 8], [0, 2, 10], [9, 2, 0], [0, 2, 0], [HUGE, 2, 9], [0, 2, HUGE]):
            self.check(None, PLAIN, 8, closed)
        self.check(None, PLAIN, 8, [0, 2, -9])
        self.check(None, (2, ()), 0, [0, 0])
        self.check(None, (2, ()), 0, [1, 1])
        self.check(0, (2, ()), 0, [0, 1])
        self.check(0, (2, ()), FAR, [0, FAR + 1])
        self.check(None, (2, ()), FAR, [0, FAR])

    def test_from_nought_to_the_hour_after_the_last_and_one_beyond(self):
        for middle, total in ((-1, None), (0, 38), (9, 41), (10, None), (HUGE, None), (-HUGE, None)):
            self.check(total, PLAIN, 8, [0, middle, 9])
        # of another hour
        self.check(None, PLAIN, 7, [0, 2, 9])
        self.check(None, PLAIN, 9, [0, 2, 9])

    def test_lists_too_short_and_too_long(self):
        for closed in ([], [0], [0, 9], [0, 2, 9, 9], [0, 2, 3, 9], [0, 0, 2, 9], [9]):
            self.check(None, PLAIN, 8, closed)
        for closed in ([], [0], [1], [0, 0, 1], [0, 1, 1]):
            self.check(None, (2, ()), 0, closed)

    def test_ways_into_the_begin_out_of_the_end_and_without_room_add_nothing(self):
        ways = ((1, 0, 9, 1), (2, 0, 9, 1), (2, 1, 9, 1), (0, 2, 0, 1), (1, 2, 0, 1), (0, 1, 0, 1))
        for middle in range(10):
            self.check(0, (3, ways), 8, [0, middle, 9])
            self.check(sum_by_words(PLAIN, [0, middle, 9]), (3, PLAIN[1] + ways), 8, [0, middle, 9])

    def test_great_numbers(self):
        self.check(12 * G * FAR, (2, ((0, 1, G, 1),) * 12), FAR, [0, FAR + 1])
        self.check(0, (2, ((0, 1, G, 10 ** 6),)), 10 ** 6 - 1, [0, 10 ** 6])
        self.check(G, (2, ((0, 1, G, 10 ** 6),)), 10 ** 6, [0, 10 ** 6 + 1])

    def test_drawn_closed_hours_never_have_a_smaller_sum_than_the_most(self):
        chance = random.Random(63)
        least = 0
        for net in list(small_nets(150)) + list(some_nets(150)) + list(ALL):
            for last in range(0, 13, 3):
                most = most_by(net, last)
                for _ in range(12):
                    closed = [0] + [chance.randint(0, last + 1) for _ in range(net[0] - 2)] + [last + 1]
                    self.check(sum_by_words(net, closed), net, last, closed)
                    self.assertGreaterEqual(closed_sum(net, last, closed), most)
                    least += closed_sum(net, last, closed) == most > 0
        self.assertGreater(least, 100)

    def test_drawn_lists_that_are_none(self):
        chance = random.Random(64)
        both = {True: 0, False: 0}
        for net in small_nets(100):
            for last in (0, 1, 5):
                for _ in range(10):
                    closed = [0] + [chance.randint(-1, last + 2) for _ in range(net[0] - 2)] + [last + 1]
                    right = all(0 <= hour <= last + 1 for hour in closed)
                    self.check(sum_by_words(net, closed) if right else None, net, last, closed)
                    both[right] += 1
        self.assertGreater(min(both.values()), 300)


if __name__ == "__main__":
    unittest.main()
