import random
import unittest

from hourhaul.streams import rounds_fit, rounds_stream, side_room, stream_rate, stream_right, stream_rounds
from samples import only_whole, sides_of, small_nets, streams_of, walks_between

# Way 2 and way 1 make a ring amid; way 5 leads from the end to the begin, way 6 back to it; way 7 has no room.
NET = (4, (
    (0, 1, 5, 2), (1, 2, 4, 1), (2, 1, 3, 1), (2, 3, 4, 6), (1, 3, 2, 9), (3, 0, 7, 1), (1, 0, 2, 1), (0, 3, 0, 1),
))
STREAM = [5, 3, 0, 3, 2, 0, 0, 0]
HUGE = 10 ** 29


class StreamRight(unittest.TestCase):
    def check(self, right, stream, net=NET):
        kept = list(stream)
        self.assertIs(stream_right(net, stream), right, stream)
        self.assertEqual(stream, kept)

    def test_a_number_for_each_way(self):
        self.check(True, STREAM)
        self.check(True, [0] * 8)
        self.check(False, STREAM[:-1])
        self.check(False, STREAM + [0])
        self.check(False, [])
        self.check(False, [0] * 7)
        self.check(False, [0] * 9)
        self.check(True, [], (2, ()))
        self.check(False, [0], (2, ()))

    def test_from_nought_to_the_room(self):
        net = (2, ((0, 1, 5, 2), (0, 1, 0, 1), (1, 0, 3, 1)))
        for stream, right in (
            ([5, 0, 0], True), ([6, 0, 0], False), ([HUGE, 0, 0], False), ([-1, 0, 0], False), ([5, 1, 0], False),
            ([5, -1, 0], False), ([5, 0, -1], False), ([5, 0, 3], True), ([5, 0, 4], False), ([0, 0, -HUGE], False),
        ):
            self.check(right, stream, net)

    def test_amid_as_much_comes_as_leaves(self):
        self.check(False, [4, 3, 0, 3, 2, 0, 0, 0])
        self.check(False, [5, 3, 0, 4, 1, 0, 0, 0])
        self.check(False, [5, 2, 0, 3, 2, 0, 0, 0])
        self.check(False, [5, 3, 0, 3, 1, 0, 0, 0])
        self.check(False, [5, 3, 1, 3, 2, 0, 0, 0])
        # each place for itself: what one lacks another's more doesn't make good
        self.check(False, [5, 4, 0, 3, 2, 0, 0, 0])

    def test_at_the_begin_no_less_leaves_than_comes(self):
        self.check(True, [0, 0, 0, 0, 0, 0, 0, 0])
        self.check(False, [0, 0, 0, 0, 0, 1, 0, 0])
        self.check(True, [5, 3, 0, 3, 2, 5, 0, 0])
        self.check(False, [5, 3, 0, 3, 2, 6, 0, 0])
        net = (3, ((2, 1, 2, 1), (1, 0, 2, 1), (0, 1, 2, 1), (1, 2, 2, 1)))
        self.check(False, [1, 1, 0, 0], net)
        self.check(False, [2, 2, 1, 1], net)
        self.check(True, [2, 2, 2, 2], net)
        self.check(True, [1, 1, 2, 2], net)

    def test_rings(self):
        self.check(True, [5, 4, 1, 3, 2, 0, 0, 0])
        self.check(True, [0, 3, 3, 0, 0, 0, 0, 0])
        self.check(True, [2, 0, 0, 0, 0, 0, 2, 0])
        self.check(False, [0, 3, 2, 0, 0, 0, 0, 0])

    def test_against_all_streams_of_small_nets(self):
        chance = random.Random(3)
        seen = 0
        for net in small_nets(90):
            streams = [stream for stream, rate in streams_of(net)]
            for stream in streams:
                self.check(True, stream, net)
            for _ in range(40):
                tried = [chance.randint(-1, way[2] + 1) for way in net[1]]
                self.check(tried in streams, tried, net)
            for stream in streams[:20]:
                for number in range(len(stream)):
                    changed = stream[:number] + [stream[number] + chance.choice((-1, 1))] + stream[number + 1:]
                    self.check(changed in streams, changed, net)
                    seen += changed not in streams
        self.assertGreater(seen, 1000)


class Rates(unittest.TestCase):
    def test_what_leaves_the_begin_less_what_comes(self):
        for stream, rate in (
            (STREAM, 5), ([0] * 8, 0), ([5, 3, 0, 3, 2, 5, 0, 0], 0), ([5, 3, 0, 3, 2, 4, 0, 0], 1),
            ([5, 4, 1, 3, 2, 0, 0, 0], 5), ([5, 2, 0, 2, 1, 0, 2, 0], 3), ([2, 0, 0, 0, 0, 0, 2, 0], 0),
        ):
            self.assertTrue(stream_right(NET, stream))
            self.assertEqual(stream_rate(NET, stream), rate)
        self.assertEqual(stream_rate((2, ()), []), 0)
        self.assertEqual(stream_rate((2, ((0, 1, 10 ** 9, 1),) * 12), [10 ** 9] * 12), 12 * 10 ** 9)

    def test_no_rate_is_above_a_sides_room(self):
        for net in small_nets(90):
            streams = list(streams_of(net))
            for stream, rate in streams:
                self.assertEqual(stream_rate(net, stream), rate)
            for side in sides_of(net):
                self.assertLessEqual(max(rate for stream, rate in streams), side_room(net, side))


class Sides(unittest.TestCase):
    def test_rooms_of_ways_out(self):
        for side, room in (((0,), 5), ((0, 1), 6), ((0, 2), 12), ((0, 1, 2), 6)):
            told = side_room(NET, side)
            self.assertEqual(told, room)
            self.assertTrue(only_whole(told))

    def test_ways_in_and_within_count_nothing(self):
        net = (3, ((0, 1, 9, 1), (1, 0, 9, 1), (2, 1, 9, 1), (2, 0, 9, 1)))
        self.assertEqual(side_room(net, (0, 1)), 0)
        self.assertEqual(side_room(net, (0,)), 9)

    def test_no_ways_and_great_rooms(self):
        self.assertEqual(side_room((2, ()), (0,)), 0)
        self.assertEqual(side_room((2, ((0, 1, 10 ** 9, 1),) * 12), (0,)), 12 * 10 ** 9)


class RoundsFit(unittest.TestCase):
    def check(self, right, rounds, net=NET):
        kept = list(rounds)
        self.assertIs(rounds_fit(net, rounds), right, rounds)
        self.assertEqual(rounds, kept)

    def test_at_the_rooms_and_above(self):
        self.check(True, [])
        self.check(True, [], (2, ()))
        self.check(True, [((0, 4), 2)])
        self.check(False, [((0, 4), 3)])
        self.check(False, [((0, 4), HUGE)])
        self.check(True, [((0, 4), 2), ((0, 1, 3), 3)])
        self.check(False, [((0, 4), 2), ((0, 1, 3), 4)])
        self.check(True, [((0, 4), 1), ((0, 1, 3), 4)])

    def test_a_walk_may_stand_in_several(self):
        self.check(True, [((0, 4), 1), ((0, 4), 1)])
        self.check(False, [((0, 4), 1), ((0, 4), 1), ((0, 4), 1)])
        self.check(False, [((0, 4), 2), ((0, 4), 1)])

    def test_loads_from_one_on(self):
        for loads in (0, -1, -HUGE):
            self.check(False, [((0, 4), loads)])
            self.check(False, [((0, 4), 2), ((0, 4), loads)])
        self.check(False, [((0, 4), 3), ((0, 4), -1)])

    def test_walks_from_the_begin_to_the_end(self):
        for walk in (
            (), (0,), (4,), (1, 3), (0, 1), (3,), (0, 3), (4, 0), (0, 1, 2, 4), (0, 6, 0, 4), (0, 4, 5),
            (0, 4, 5, 0, 4), (5, 0, 4), (7,), (8,), (-4,), (0, -4), (0, HUGE), (-HUGE, 4), (0, 0, 4), (0, 4, 4), (5,),
        ):
            self.check(False, [(walk, 1)])
            self.check(False, [((0, 1, 3), 1), (walk, 1)])

    def test_of_no_ways(self):
        self.check(False, [((), 1)], (2, ()))
        self.check(False, [((0,), 1)], (2, ()))
        self.check(False, [((-1,), 1)], (2, ()))

    def test_rounds_and_walks_of_small_nets(self):
        chance = random.Random(5)
        both = {True: 0, False: 0}
        for net in small_nets(90):
            walks = walks_between(net, 0, net[0] - 1)
            for _ in range(12 if walks else 0):
                rounds = [(chance.choice(walks), chance.randint(1, 2)) for _ in range(chance.randint(1, 3))]
                loads = [sum(taken for walk, taken in rounds if way in walk) for way in range(len(net[1]))]
                fits = all(taken <= way[2] for taken, way in zip(loads, net[1]))
                self.check(fits, rounds, net)
                both[fits] += 1
                if fits:
                    self.assertEqual(rounds_stream(net, rounds), loads)
                    self.assertTrue(stream_right(net, loads))
                    self.assertEqual(stream_rate(net, loads), sum(taken for walk, taken in rounds))
        self.assertGreater(min(both.values()), 50)


class RoundsStream(unittest.TestCase):
    def test_loads_of_all_rounds_that_go_a_way(self):
        rounds = [((0, 4), 1), ((0, 1, 3), 3), ((0, 4), 1)]
        self.assertEqual(rounds_stream(NET, rounds), STREAM)
        self.assertEqual(rounds, [((0, 4), 1), ((0, 1, 3), 3), ((0, 4), 1)])
        self.assertEqual(rounds_stream(NET, []), [0] * 8)
        self.assertEqual(rounds_stream((2, ()), []), [])

    def test_the_told_list_is_the_askers_own(self):
        rounds = [((0, 4), 2)]
        told = rounds_stream(NET, rounds)
        self.assertIs(type(told), list)
        self.assertTrue(only_whole(told))
        told[0] = 99
        self.assertEqual(rounds_stream(NET, rounds), [2, 0, 0, 0, 2, 0, 0, 0])


class Parted(unittest.TestCase):
    def check(self, net, stream):
        kept = list(stream)
        rounds = stream_rounds(net, stream)
        self.assertIs(type(rounds), list)
        self.assertEqual(stream, kept)
        self.assertTrue(only_whole(rounds))
        self.assertLessEqual(len(rounds), len(net[1]))
        walks = walks_between(net, 0, net[0] - 1)
        for walk, loads in rounds:
            self.assertIn(walk, walks)
            self.assertGreaterEqual(loads, 1)
        for number, taken in enumerate(stream):
            self.assertLessEqual(sum(loads for walk, loads in rounds if number in walk), taken)
        self.assertEqual(sum(loads for walk, loads in rounds), stream_rate(net, stream))
        self.assertEqual(stream_rounds(net, stream), rounds)
        self.assertIs(rounds_fit(net, rounds), True)
        return rounds

    def test_without_rings(self):
        self.assertEqual(sorted(self.check(NET, STREAM)), [((0, 1, 3), 3), ((0, 4), 2)])

    def test_nothing(self):
        self.assertEqual(self.check(NET, [0] * 8), [])
        self.assertEqual(self.check((2, ()), []), [])

    def test_rings_are_left(self):
        self.assertEqual(sorted(self.check(NET, [5, 4, 1, 3, 2, 0, 0, 0])), [((0, 1, 3), 3), ((0, 4), 2)])
        for ring in ([0, 3, 3, 0, 0, 0, 0, 0], [2, 0, 0, 0, 0, 0, 2, 0], [5, 3, 0, 3, 2, 5, 0, 0]):
            self.assertEqual(self.check(NET, ring), [])

    def test_rings_over_the_begin_and_the_end_leave_only_the_rate(self):
        self.assertEqual(sum(loads for walk, loads in self.check(NET, [5, 3, 0, 3, 2, 4, 0, 0])), 1)
        self.assertEqual(sum(loads for walk, loads in self.check(NET, [5, 2, 0, 2, 1, 0, 2, 0])), 3)

    def test_great_rooms(self):
        net = (2, ((0, 1, 10 ** 9, 1),) * 12)
        stream = [10 ** 9 - number for number in range(12)]
        self.assertEqual(sorted(self.check(net, stream)), [((number,), loads) for number, loads in enumerate(stream)])

    def test_all_streams_of_small_nets(self):
        with_rings = 0
        for net in small_nets(90):
            for stream, rate in streams_of(net):
                rounds = self.check(net, stream)
                with_rings += bool(rounds) and rounds_stream(net, rounds) != stream
        self.assertGreater(with_rings, 50)

    def test_the_told_list_is_the_askers_own(self):
        told = stream_rounds(NET, STREAM)
        kept = list(told)
        told.clear()
        self.assertEqual(stream_rounds(NET, STREAM), kept)


if __name__ == "__main__":
    unittest.main()
