import unittest

from hourhaul.fullest import fullest_right, fullest_stream
from samples import only_whole, sides_of, small_nets, some_nets, stays_of, streams_of

G = 10 ** 9
HUGE = 10 ** 29
# Rate 5: way 1 and way 2 make a ring, way 5 leads from the end, way 6 into the begin, way 7 has no room.
NET = (4, (
    (0, 1, 5, 2), (1, 2, 4, 1), (2, 1, 3, 1), (2, 3, 4, 6), (1, 3, 2, 9), (3, 0, 7, 1), (1, 0, 2, 1), (0, 3, 0, 1),
))


def room_out(net, side):
    return sum(room for start, to, room, hours in net[1] if start in side and to not in side)


class Told(unittest.TestCase):
    def check(self, net):
        told = fullest_stream(net)
        self.assertIs(type(told), tuple)
        self.assertEqual(len(told), 3)
        rate, stream, side = told
        self.assertIs(type(stream), list)
        self.assertTrue(only_whole(told))
        self.assertEqual(len(stream), len(net[1]))
        self.assertTrue(all(0 <= loads <= way[2] for loads, way in zip(stream, net[1])))
        stays = stays_of(net, stream)
        self.assertEqual(stays[1:-1], [0] * (net[0] - 2))
        self.assertEqual((stays[0], stays[-1]), (-rate, rate))
        self.assertIn(side, list(sides_of(net)))
        self.assertEqual(room_out(net, side), rate)
        self.assertIs(fullest_right(net, told), True)
        self.assertEqual(fullest_stream(net), told)
        return rate

    def test_rates(self):
        for net, rate in (
            ((2, ()), 0), ((6, ()), 0), ((2, ((0, 1, 0, 1),)), 0), ((2, ((0, 1, 7, 3),)), 7), ((2, ((1, 0, 7, 3),)), 0),
            ((2, ((0, 1, 7, 3), (0, 1, 7, 3), (1, 0, 9, 1))), 14), (NET, 5),
            ((3, ((0, 1, 5, 2), (1, 2, 4, 1), (0, 2, 3, 7))), 7), ((3, ((0, 1, 5, 2), (1, 2, 0, 1))), 0),
            ((3, ((0, 1, 5, 2), (2, 1, 5, 1), (1, 0, 5, 1))), 0),
        ):
            self.assertEqual(self.check(net), rate)

    def test_small_nets_against_all_their_streams(self):
        for net in small_nets(300):
            self.assertEqual(self.check(net), max(rate for stream, rate in streams_of(net)))

    def test_nets_to_the_bounds(self):
        for net in some_nets(300):
            self.assertEqual(self.check(net), min(room_out(net, side) for side in sides_of(net)))

    def test_great_rooms(self):
        self.assertEqual(self.check((2, ((0, 1, G, 1),) * 12)), 12 * G)
        # whoever went across and back by one load at a time would never be done
        self.assertEqual(self.check((4, ((0, 1, G, 1), (1, 2, 1, 1), (2, 3, G, 1), (0, 2, G, 1), (1, 3, G, 1)))), 2 * G)
        self.assertEqual(self.check((4, ((1, 2, 1, 1), (0, 2, G, 9), (1, 3, G, 9), (2, 3, G, 1), (0, 1, G, 1)))), 2 * G)
        for net in some_nets(100):
            ways = tuple((start, to, room * G // 5, hours * 250_000) for start, to, room, hours in net[1])
            self.assertEqual(self.check((net[0], ways)), self.check(net) * G // 5)

    def test_what_is_told_is_the_askers_own(self):
        told = fullest_stream(NET)
        kept = list(told[1])
        told[1].clear()
        self.assertEqual(fullest_stream(NET)[1], kept)


class Judged(unittest.TestCase):
    # Rate 4, by both walks at will; the sides (0,) and (0, 1, 2) have room 4, the others more.
    FREE = (4, ((0, 1, 4, 1), (1, 2, 4, 1), (2, 3, 4, 1), (1, 2, 4, 5), (2, 1, 1, 1), (3, 0, 9, 1)))
    STREAM = [4, 4, 4, 0, 0, 0]

    def check(self, right, rate, stream, side, net=FREE):
        kept = list(stream)
        self.assertIs(fullest_right(net, (rate, stream, side)), right, (rate, stream, side))
        self.assertEqual(stream, kept)

    def test_other_right_answers(self):
        for stream in (
            self.STREAM, [4, 0, 4, 4, 0, 0], [4, 1, 4, 3, 0, 0], [4, 4, 4, 1, 1, 0], [4, 2, 4, 3, 1, 0],
        ):
            for side in ((0,), (0, 1, 2)):
                self.check(True, 4, stream, side)
        self.check(True, 0, [], (0,), (2, ()))
        self.check(True, 0, [], (0, 2, 3), (6, ()))

    def test_a_rate_beside(self):
        for rate in (3, 5, 0, -4, HUGE, -HUGE):
            self.check(False, rate, self.STREAM, (0,))
        self.check(False, 1, [], (0,), (2, ()))
        self.check(False, -1, [], (0,), (2, ()))

    def test_a_stream_of_less(self):
        self.check(False, 3, [3, 3, 3, 0, 0, 0], (0,))
        self.check(False, 4, [3, 3, 3, 0, 0, 0], (0,))
        self.check(False, 4, [4, 4, 4, 0, 0, 1], (0,))
        self.check(False, 3, [4, 4, 4, 0, 0, 1], (0,))
        self.check(False, 0, [0] * 6, (0,))

    def test_a_stream_that_is_none(self):
        for stream in (
            [4, 4, 4, 0, 0], [4, 4, 4, 0, 0, 0, 0], [], [4, 3, 4, 0, 0, 0], [4, 4, 3, 0, 0, 0], [4, 5, 4, -1, 0, 0],
            [4, 4, 4, 2, 2, 0], [HUGE, HUGE, HUGE, 0, 0, 0], [5, 4, 4, 0, 0, 1], [4, 0, 0, 0, 0, 0],
        ):
            self.check(False, 4, stream, (0,))

    def test_a_side_that_is_none(self):
        for side in (
            (), (1,), (1, 2), (0, 3), (0, 1, 2, 3), (1, 0), (0, 0), (0, 2, 1), (0, 1, 1, 2), (0, 4), (0, HUGE), (-1, 0),
            (0, -1), (-1,), (-HUGE, 0), (3,), (-4, 0), (0, 1, 2, 4),
        ):
            self.check(False, 4, self.STREAM, side)
        # the end is on no side, though no way leads out of this one
        self.check(False, 0, [0], (0, 1), (2, ((0, 1, 5, 1),)))
        self.check(False, 0, [0], (0, 1, 2), (2, ((0, 1, 5, 1),)))
        self.check(False, 0, [0], (), (2, ((0, 1, 5, 1),)))
        self.check(False, 0, [0], (1,), (2, ((0, 1, 5, 1),)))

    def test_a_side_with_another_room(self):
        self.check(False, 4, self.STREAM, (0, 1))
        self.check(False, 4, self.STREAM, (0, 2))
        self.check(False, 8, self.STREAM, (0, 1))

    def test_all_streams_and_sides_of_small_nets(self):
        right = 0
        for net in small_nets(60):
            streams = list(streams_of(net))
            most = max(rate for stream, rate in streams)
            for stream, rate in streams:
                for side in sides_of(net):
                    is_right = rate == most == room_out(net, side)
                    self.check(is_right, rate, stream, side, net)
                    self.check(False, rate + 1, stream, side, net)
                    self.check(False, rate - 1, stream, side, net)
                    right += is_right
        self.assertGreater(right, 100)


if __name__ == "__main__":
    unittest.main()
