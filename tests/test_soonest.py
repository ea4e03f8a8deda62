import unittest

from hourhaul.bends import bends_of, least_hours
from hourhaul.closed import closed_hours, closed_sum, most_by
from hourhaul.fullest import fullest_stream
from hourhaul.hauls import best_rounds, rounds_bring
from hourhaul.soonest import gain_at, soonest_hour, soonest_right, steady_hour
from samples import (
    BACK, FAR, G, GREAT, HUGE, NEVER, ODD, PLAIN, hours_about, only_whole, sides_of, small_nets, some_nets,
)

MANY = 10 ** 18


def room_out(net, side):
    return sum(room for start, to, room, hours in net[1] if start in side and to not in side)


class Told(unittest.TestCase):
    def check(self, net, loads):
        told = soonest_hour(net, loads)
        self.assertIs(type(told), tuple)
        self.assertTrue(only_whole(told[1:]))
        self.assertEqual(soonest_hour(net, loads), told)
        self.assertIs(soonest_right(net, loads, told), True, (net, loads, told))
        if told[0] == "never":
            self.assertEqual(len(told), 2)
            self.assertIn(told[1], list(sides_of(net)))
            self.assertEqual(room_out(net, told[1]), 0)
            return None
        word, last, rounds, closed = told
        self.assertEqual(word, "by")
        self.assertIs(type(rounds), list)
        self.assertIs(type(closed), list)
        self.assertTrue(most_by(net, last) >= loads > most_by(net, last - 1))
        self.assertGreaterEqual(rounds_bring(net, last, rounds), loads)
        self.assertLess(closed_sum(net, last - 1, closed), loads)
        return last

    def test_just_the_most_by_an_hour_and_one_more(self):
        # the most by 3, 4 .. : 4, 8, 12, 16, 23, 30
        for loads, last in (
            (1, 3), (3, 3), (4, 3), (5, 4), (8, 4), (9, 5), (12, 5), (13, 6), (16, 6), (17, 7), (22, 7), (23, 7),
            (24, 8), (30, 8), (31, 9), (37, 9), (38, 10),
        ):
            self.assertEqual(self.check(PLAIN, loads), last)
        # the most by 3, 4 .. : 2, 4, 6, 8, 10, 14, 18
        for loads, last in ((1, 3), (2, 3), (3, 4), (10, 7), (11, 8), (14, 8), (15, 9), (18, 9), (19, 10)):
            self.assertEqual(self.check(BACK, loads), last)
        for loads, last in ((1, 3), (2, 3), (3, 4), (4, 4), (5, 5)):
            self.assertEqual(self.check(ODD, loads), last)

    def test_of_each_net_at_each_hour(self):
        for net in list(small_nets(150)) + list(some_nets(150)) + [GREAT, ODD]:
            for last in (1, 2, 3, 5, 8, 9, 12, 1000, 10 ** 7):
                most = most_by(net, last)
                if most > 0:
                    self.assertLessEqual(self.check(net, most), last)
                    self.assertEqual(self.check(net, most + 1), last + 1)
                self.check(net, 1)

    def test_far_hours(self):
        self.assertEqual(self.check((2, ((0, 1, 1, 1),)), MANY), MANY)
        self.assertEqual(self.check((2, ((0, 1, 1, 10 ** 6),)), MANY), MANY + 10 ** 6 - 1)
        # seven an hour, 26 fewer for what comes late
        self.assertEqual(self.check(PLAIN, MANY), (MANY + 26 + 6) // 7)
        self.assertEqual(self.check((2, ((0, 1, G, 10 ** 6),)), MANY), 10 ** 6 + 10 ** 9 - 1)
        self.assertEqual(self.check((2, ((0, 1, G, 10 ** 6),)), G), 10 ** 6)
        self.assertEqual(self.check((2, ((0, 1, G, 10 ** 6),)), G + 1), 10 ** 6 + 1)
        for net in list(small_nets(100)) + [BACK, GREAT, ODD]:
            for loads in (MANY - 1, MANY):
                self.check(net, loads)

    def test_never(self):
        for net in NEVER:
            for loads in (1, 2, MANY):
                self.assertIsNone(self.check(net, loads))
                self.assertEqual(soonest_hour(net, loads)[0], "never")

    def test_never_just_where_no_bends_are(self):
        seen = {True: 0, False: 0}
        for net in some_nets(200):
            never = self.check(net, 5) is None
            self.assertEqual(never, bends_of(net) == [])
            seen[never] += 1
        self.assertGreater(min(seen.values()), 20)

    def test_what_is_told_is_the_askers_own(self):
        word, last, rounds, closed = soonest_hour(PLAIN, 30)
        kept = (word, last, list(rounds), list(closed))
        rounds.clear()
        closed.clear()
        self.assertEqual(soonest_hour(PLAIN, 30), kept)


class JudgedBy(unittest.TestCase):
    # 20 loads: 23 by hour 7, 16 by hour 6
    ROUNDS = [((0, 1), 4), ((2,), 3)]
    CLOSED = [0, 2, 7]

    def check(self, right, told, loads=20, net=PLAIN):
        kept = (told[0], told[1], list(told[2]), list(told[3]))
        self.assertIs(soonest_right(net, loads, told), right, (net, loads, told))
        self.assertEqual(told, kept)

    def test_other_right_ones(self):
        self.check(True, ("by", 7, self.ROUNDS, self.CLOSED))
        for rounds in (
            [((2,), 3), ((0, 1), 4)], [((0, 1), 4)], [((0, 1), 1), ((2,), 1), ((0, 1), 3)], [((0, 1), 4), ((2,), 1)],
            [((2,), 1), ((2,), 2), ((0, 1), 4)],
        ):
            self.check(True, ("by", 7, rounds, self.CLOSED))
        # sums 16 and 17 are below the loads, 20 isn't
        self.check(True, ("by", 7, self.ROUNDS, [0, 3, 7]))
        self.check(False, ("by", 7, self.ROUNDS, [0, 1, 7]))
        # rounds that bring just so many, and longer ones that bring nothing
        self.check(True, ("by", 3, [((0, 1), 2), ((2,), 3)], [0, 2, 3]), 2)
        self.check(True, ("by", 3, [((0, 1), 1)], [0, 2, 3]), 1)
        self.check(True, ("by", 3, [((0, 1), 1), ((2,), 3)], [0, 2, 3]), 1)

    def test_another_hour(self):
        for last in (6, 8, 5, 0, -1, -7, FAR, HUGE, -HUGE):
            self.check(False, ("by", last, self.ROUNDS, self.CLOSED))
            closed = [0, min(2, abs(last)), last]
            self.check(False, ("by", last, self.ROUNDS, closed))
        self.check(False, ("by", 8, self.ROUNDS, closed_hours(PLAIN, 7)))
        self.check(False, ("by", 6, best_rounds(PLAIN, 6), closed_hours(PLAIN, 5)))
        self.check(False, ("by", 8, self.ROUNDS, [0, 2, 7]))

    def test_rounds_that_bring_too_few(self):
        self.check(True, ("by", 7, [((0, 1), 4)], self.CLOSED), 20)
        self.check(False, ("by", 7, [((0, 1), 4)], self.CLOSED), 21)
        self.check(True, ("by", 7, [((0, 1), 4), ((2,), 1)], self.CLOSED), 21)
        self.check(True, ("by", 7, self.ROUNDS, self.CLOSED), 23)
        self.check(False, ("by", 7, self.ROUNDS, self.CLOSED), 24)
        self.check(False, ("by", 7, [], self.CLOSED))
        self.check(False, ("by", 7, [((0, 1), 3), ((2,), 3)], self.CLOSED))

    def test_rounds_that_do_not_fit(self):
        for rounds in (
            [((0, 1), 5), ((2,), 3)], self.ROUNDS + [((2,), 1)], self.ROUNDS + [((2,), 0)], self.ROUNDS + [((), 1)],
            self.ROUNDS + [((0,), 1)], [((0, 1), HUGE)], [((0, -2), 4), ((2,), 3)], [((0, 1), 5), ((0, 1), -1)],
        ):
            self.check(False, ("by", 7, rounds, self.CLOSED))

    def test_closed_hours_whose_sum_is_not_below_the_loads(self):
        # sums 16 and 17
        self.check(True, ("by", 7, self.ROUNDS, [0, 2, 7]), 17)
        self.check(False, ("by", 7, self.ROUNDS, [0, 2, 7]), 16)
        self.check(True, ("by", 7, self.ROUNDS, [0, 2, 7]), 18)
        self.check(False, ("by", 7, self.ROUNDS, [0, 3, 7]), 17)
        self.check(True, ("by", 7, self.ROUNDS, [0, 3, 7]), 18)

    def test_closed_hours_that_are_none_or_of_another_hour(self):
        for closed in (
            [], [0], [0, 7], [0, 2, 7, 7], [0, 2, 8], [0, 2, 6], [1, 2, 7], [0, -1, 7], [0, 8, 7], [0, 2, HUGE],
            [0, -HUGE, 7], [2, 0, 7],
        ):
            self.check(False, ("by", 7, self.ROUNDS, closed))

    def test_another_word(self):
        for word in ("", "By", "by ", "never", "at", "BY", "b"):
            self.check(False, (word, 7, self.ROUNDS, self.CLOSED))

    def test_hour_nought_is_never_the_soonest(self):
        for net in (PLAIN, (2, ((0, 1, 5, 1),)), (2, ())):
            for last in (0, -1):
                self.check(False, ("by", last, [], [0] * net[0]), 1, net)
                self.check(False, ("by", last, [], [0] * (net[0] - 1) + [last]), 1, net)

    def test_never_where_nothing_can_be_brought(self):
        for net in NEVER:
            self.check(False, ("by", 1, [], [0] * (net[0] - 1) + [1]), 1, net)

    def test_told_ones_of_small_nets_one_hour_beside(self):
        for net in small_nets(100):
            for loads in (1, 3, 10, 57):
                told = soonest_hour(net, loads)
                if told[0] == "by":
                    word, last, rounds, closed = told
                    self.check(True, told, loads, net)
                    self.check(False, (word, last + 1, rounds, closed), loads, net)
                    self.check(False, (word, last - 1, rounds, closed), loads, net)
                    for other in (last - 1, last + 1):
                        bests = (word, other, best_rounds(net, other), closed_hours(net, other - 1))
                        self.check(False, bests, loads, net)


class JudgedNever(unittest.TestCase):
    # Way 1 has no room; nothing leaves the sides (0, 1) and (0, 1, 3).
    NET = (5, ((0, 1, 5, 1), (1, 4, 0, 1), (2, 4, 5, 1), (1, 0, 5, 1), (2, 1, 5, 1)))

    def check(self, right, told, net=NET):
        for loads in (1, 7, MANY):
            self.assertIs(soonest_right(net, loads, told), right, (net, told))

    def test_sides(self):
        for side in ((0, 1), (0, 1, 3)):
            self.check(True, ("never", side))
        for side in ((0,), (0, 2), (0, 1, 2), (0, 3), (0, 1, 2, 3)):
            self.check(False, ("never", side))
        for side in ((0,), (0, 1), (0, 2, 4), (0, 1, 2, 3, 4)):
            self.check(True, ("never", side), (6, ()))

    def test_what_is_no_side(self):
        for side in (
            (), (1,), (1, 3), (0, 1, 4), (0, 1, 3, 4), (0, 1, 2, 3, 4), (1, 0), (0, 1, 1), (0, 0, 1), (0, 1, 5),
            (0, 1, HUGE), (-1, 0, 1), (-HUGE, 0, 1), (0, 3, 1), (4,), (-5, 1),
        ):
            self.check(False, ("never", side))

    def test_another_word(self):
        for word in ("", "Never", "never ", "by", "nevermore"):
            self.check(False, (word, (0, 1)))

    def test_a_side_with_room(self):
        for net in (PLAIN, BACK, GREAT, ODD):
            for side in sides_of(net):
                self.check(False, ("never", side), net)

    def test_all_sides_of_nets(self):
        seen = {True: 0, False: 0}
        for net in list(some_nets(150)) + list(NEVER):
            for side in sides_of(net):
                right = room_out(net, side) == 0
                self.check(right, ("never", side), net)
                seen[right] += 1
        self.assertGreater(min(seen.values()), 100)


class Gains(unittest.TestCase):
    def check(self, net, last, gain):
        told = gain_at(net, last)
        self.assertEqual(told, gain, (net, last))
        self.assertTrue(only_whole(told))

    def test_ahead_of_at_and_behind_each_bend(self):
        for last, gain in ((0, 0), (1, 0), (2, 0), (3, 4), (4, 4), (6, 4), (7, 7), (8, 7), (FAR, 7)):
            self.check(PLAIN, last, gain)
        for last, gain in (
            (0, 0), (2, 0), (3, 1), (4, 1), (5, G), (6, 2 * G - 1), (7, 2 * G - 1), (8, 2 * G), (FAR, 2 * G),
        ):
            self.check(GREAT, last, gain)

    def test_nothing(self):
        for net in NEVER:
            for last in (0, 1, 12, FAR):
                self.check(net, last, 0)

    def test_what_the_most_grows_by(self):
        for net in list(small_nets(150)) + list(some_nets(150)):
            self.check(net, 0, most_by(net, 0))
            for last in hours_about([length for length, loads in bends_of(net)])[1:]:
                self.check(net, last, most_by(net, last) - most_by(net, last - 1))

    def test_they_only_grow_up_to_the_greatest_rate(self):
        for net in small_nets(100):
            gains = [gain_at(net, last) for last in range(40)]
            self.assertEqual(gains, sorted(gains))
            self.assertEqual(gain_at(net, FAR), fullest_stream(net)[0])


class Steady(unittest.TestCase):
    def test_told(self):
        for net, hour in ((PLAIN, 7), (BACK, 8), (GREAT, 8), (ODD, 3), ((2, ((0, 1, G, 10 ** 6),)), 10 ** 6)):
            self.assertEqual(steady_hour(net), hour)

    def test_none(self):
        for net in NEVER:
            self.assertIsNone(steady_hour(net))

    def test_from_there_on_each_gain_is_the_greatest_rate_and_not_ahead(self):
        for net in list(small_nets(150)) + list(some_nets(150)):
            hour = steady_hour(net)
            rate = fullest_stream(net)[0]
            if rate == 0:
                self.assertIsNone(hour)
            else:
                self.assertTrue(only_whole(hour))
                self.assertEqual([gain_at(net, last) for last in (hour, hour + 1, hour + 9, FAR)], [rate] * 4)
                self.assertLess(gain_at(net, hour - 1), rate)


class RatesAndHours(unittest.TestCase):
    def test_least_hours_by_the_most(self):
        for net in small_nets(60):
            rates = range(fullest_stream(net)[0] + 1)
            hours = range(-1, 45)
            most = {-1: 0}
            for last in hours[1:]:
                most[last] = most_by(net, last)
            least = [least_hours(net, rate) for rate in rates]
            for rate in rates:
                self.assertEqual(least[rate], max((last + 1) * rate - most[last] for last in hours))
            for last in hours:
                self.assertEqual(most[last], max((last + 1) * rate - least[rate] for rate in rates))


if __name__ == "__main__":
    unittest.main()
