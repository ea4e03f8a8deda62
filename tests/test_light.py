import random
import unittest

from hourhaul.bends import least_hours
from hourhaul.errors import HaulError, TooMuch
from hourhaul.light import clocks_right, light_stream, stream_hours
from samples import PLAIN, least_hours_of, only_whole, small_nets, some_nets, stays_of, streams_of

G = 10 ** 9
HUGE = 10 ** 29
# Way 3 has no room; place 2 is come to by no way with room.
CUT = (4, ((0, 1, 3, 2), (1, 3, 3, 2), (2, 3, 4, 1), (0, 2, 0, 1)))


def are_clocks(net, stream, clocks):
    """5.2 word by word."""
    if len(clocks) != net[0] or clocks[0] != 0:
        return False
    for (start, to, room, hours), loads in zip(net[1], stream):
        if room > 0 and loads < room and not clocks[to] <= clocks[start] + hours:
            return False
        if room > 0 and loads > 0 and not clocks[to] >= clocks[start] + hours:
            return False
    return True


class Hours(unittest.TestCase):
    def test_loads_times_hours(self):
        for net, stream, hours in (
            (PLAIN, [4, 4, 3], 33), (PLAIN, [0, 0, 0], 0), (PLAIN, [1, 1, 0], 3), (PLAIN, [0, 0, 1], 7),
            ((2, ()), [], 0), ((2, ((0, 1, 5, 2), (1, 0, 5, 3))), [2, 2], 10),
            ((2, ((0, 1, G, 10 ** 6),) * 12), [G] * 12, 12 * G * 10 ** 6),
        ):
            kept = list(stream)
            self.assertEqual(stream_hours(net, stream), hours)
            self.assertTrue(only_whole(stream_hours(net, stream)))
            self.assertEqual(stream, kept)


class Light(unittest.TestCase):
    def check(self, net, rate):
        told = light_stream(net, rate)
        self.assertIs(type(told), tuple)
        self.assertEqual(len(told), 2)
        stream, clocks = told
        self.assertIs(type(stream), list)
        self.assertIs(type(clocks), list)
        self.assertTrue(only_whole(told))
        self.assertEqual(len(stream), len(net[1]))
        self.assertTrue(all(0 <= loads <= way[2] for loads, way in zip(stream, net[1])))
        stays = stays_of(net, stream)
        self.assertEqual((stays[0], stays[1:-1]), (-rate, [0] * (net[0] - 2)))
        self.assertTrue(are_clocks(net, stream, clocks), (net, told))
        self.assertIs(clocks_right(net, stream, clocks), True)
        self.assertEqual(stream_hours(net, stream), least_hours(net, rate))
        self.assertEqual(light_stream(net, rate), told)
        return stream

    def test_told(self):
        for rate, stream in (
            (0, [0, 0, 0]), (1, [1, 1, 0]), (4, [4, 4, 0]), (5, [4, 4, 1]), (6, [4, 4, 2]), (7, [4, 4, 3]),
        ):
            self.assertEqual(self.check(PLAIN, rate), stream)
        for net in ((2, ()), (6, ())):
            self.assertEqual(self.check(net, 0), [])

    def test_places_that_nothing_comes_to_have_clocks_too(self):
        for rate in range(4):
            self.check(CUT, rate)
        for net in (
            (4, ((1, 0, 2, 9), (2, 1, 2, 9), (3, 2, 2, 9), (0, 3, 1, 1))), (3, ((1, 0, 9, 10 ** 6), (0, 2, 1, 1))),
            (5, ((1, 2, 3, 4), (2, 3, 3, 4), (3, 4, 3, 4), (4, 1, 3, 4), (0, 4, 1, 9))),
        ):
            self.check(net, 0)
            self.check(net, 1)

    def test_small_nets_against_all_their_streams(self):
        for net in small_nets(300):
            least = least_hours_of(net)
            for rate in range(max(least) + 1):
                self.assertEqual(stream_hours(net, self.check(net, rate)), least[rate])
            self.assertRaises(TooMuch, light_stream, net, max(least) + 1)

    def test_nets_to_the_bounds(self):
        for net in some_nets(200):
            rate = 0
            while True:
                try:
                    self.check(net, rate)
                except TooMuch:
                    break
                rate += 1

    def test_great_rooms_and_hours(self):
        net = (4, ((0, 1, G, 1), (1, 2, 1, 1), (2, 3, G, 1), (0, 2, G, 4), (1, 3, G, 5)))
        for rate in (0, 1, 2, G - 1, G, G + 1, 2 * G - 1, 2 * G):
            self.check(net, rate)
        self.check((2, ((0, 1, G, 10 ** 6),) * 12), 12 * G)

    def test_too_much(self):
        for net, rate in (
            (PLAIN, 8), (PLAIN, HUGE), (CUT, 4), ((2, ()), 1), ((2, ((0, 1, 0, 1),)), 1), ((2, ((0, 1, G, 1),)), G + 1),
        ):
            with self.assertRaises(TooMuch) as caught:
                light_stream(net, rate)
            self.assertIsInstance(caught.exception, HaulError)

    def test_what_is_told_is_the_askers_own(self):
        stream, clocks = light_stream(PLAIN, 5)
        kept = (list(stream), list(clocks))
        stream.clear()
        clocks.clear()
        self.assertEqual(light_stream(PLAIN, 5), kept)


class Clocks(unittest.TestCase):
    def check(self, right, net, stream, clocks):
        kept = (list(stream), list(clocks))
        self.assertIs(clocks_right(net, stream, clocks), right, (net, stream, clocks))
        self.assertEqual((stream, clocks), kept)

    def test_others_are_let_by_too(self):
        self.check(True, PLAIN, [4, 4, 1], [0, 2, 7])
        for clocks in ([0, 2, 7], [0, 2, 3], [0, 2, 5]):
            self.check(True, PLAIN, [4, 4, 0], clocks)
        for clocks in ([0, 2, 7], [0, 2, 8], [0, 2, HUGE]):
            self.check(True, PLAIN, [4, 4, 3], clocks)
        for clocks in ([0, 0, 0], [0, 2, 3], [0, -5, -9], [0, 2, -HUGE]):
            self.check(True, PLAIN, [0, 0, 0], clocks)
        self.check(True, (2, ()), [], [0, HUGE])
        self.check(True, (2, ()), [], [0, -HUGE])

    def test_the_begins_clock(self):
        for clock in (1, -1, HUGE):
            self.check(False, PLAIN, [4, 4, 1], [clock, clock + 2, clock + 7])
            self.check(False, (2, ()), [], [clock, 0])

    def test_a_way_left_with_room_whose_clock_is_too_great(self):
        self.check(False, PLAIN, [4, 4, 1], [0, 3, 7])
        self.check(False, PLAIN, [4, 4, 0], [0, 2, 8])
        self.check(False, PLAIN, [0, 0, 0], [0, 3, 0])
        self.check(False, PLAIN, [3, 3, 0], [0, 2, 4])

    def test_a_way_gone_whose_clock_is_too_small(self):
        self.check(False, PLAIN, [4, 4, 1], [0, 1, 7])
        self.check(False, PLAIN, [4, 4, 1], [0, 2, 6])
        self.check(False, PLAIN, [4, 4, 3], [0, 2, 6])
        self.check(False, PLAIN, [4, 4, 0], [0, 2, 2])

    def test_lists_too_short_and_too_long(self):
        self.check(True, PLAIN, [4, 4, 1], [0, 2, 7])
        for stream, clocks in (
            ([4, 4, 1], [0, 2]), ([4, 4, 1], [0, 2, 7, 9]), ([4, 4, 1], []), ([4, 4], [0, 2, 7]),
            ([4, 4, 1, 0], [0, 2, 7]), ([], [0, 2, 7]), ([], []), ([4, 4, 1], [0]),
        ):
            self.check(False, PLAIN, stream, clocks)
        self.check(True, (2, ()), [], [0, 0])
        for clocks in ([], [0], [0, 0, 0]):
            self.check(False, (2, ()), [], clocks)

    def test_what_is_no_stream_has_none(self):
        for stream in ([4, 3, 1], [5, 5, 0], [4, 4, -1], [-1, -1, 0], [0, 0, HUGE], [4, 4, 4]):
            self.check(False, PLAIN, stream, [0, 2, 7])
        # a stream must not bring back to the begin more than leaves it
        self.check(False, (2, ((1, 0, 1, 5),)), [1], [0, -5])
        self.check(True, (2, ((1, 0, 1, 5),)), [0], [0, -5])

    def test_ways_without_room_ask_nothing(self):
        net = (2, ((0, 1, 0, 5), (0, 1, 2, 9)))
        for clocks in ([0, 9], [0, 6], [0, -HUGE]):
            self.check(True, net, [0, 0], clocks)
        self.check(True, net, [0, 2], [0, HUGE])
        self.check(True, (2, ((0, 1, 0, 5), (1, 0, 0, 5))), [0, 0], [0, HUGE])
        self.check(True, (2, ((0, 1, 0, 5), (1, 0, 0, 5))), [0, 0], [0, -HUGE])

    def test_all_streams_of_small_nets(self):
        chance = random.Random(6)
        both = {True: 0, False: 0}
        for net in small_nets(80):
            least = least_hours_of(net)
            for stream, rate in streams_of(net):
                found = light_stream(net, rate)[1]
                nudged = [clock + chance.choice((-1, 0, 0, 0, 1)) for clock in found]
                for clocks in (found, nudged, [0] + [chance.randint(-3, 9) for _ in range(net[0] - 1)]):
                    right = are_clocks(net, stream, clocks)
                    self.check(right, net, stream, clocks)
                    both[right] += 1
                    if right:
                        self.assertEqual(stream_hours(net, stream), least[rate])
        self.assertGreater(min(both.values()), 200)

    def test_clocks_fit_each_light_stream_of_the_rate(self):
        for net in small_nets(80):
            least = least_hours_of(net)
            for stream, rate in streams_of(net):
                light = stream_hours(net, stream) == least[rate]
                self.check(light, net, stream, light_stream(net, rate)[1])


if __name__ == "__main__":
    unittest.main()
