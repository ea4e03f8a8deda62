import copy
import unittest

from hourhaul.errors import BadHour, BadNet, NoWay, TooMany
from hourhaul.nets import (
    less_way, made_net, parted_net, put_way, turned_net, ways_in, ways_out, with_room,
)
from samples import PLAIN, some_nets

GOOD = (0, 1, 1, 1)
NO_NUMBERS = (True, False, None, "1", "", [], [1], (1,), {}, {1: 1}, b"1", object())


class Endless:
    """Equal to all and of every length, and yet no number, list or tuple."""

    def __eq__(self, other):
        return True

    def __len__(self):
        return 4

    def __getitem__(self, index):
        return 1


class NetCase(unittest.TestCase):
    def refuses(self, at, many, ways):
        with self.assertRaises(BadNet) as caught:
            made_net(many, ways)
        self.assertEqual(caught.exception.at, at)

    def plain(self, net):
        """A net through and through of tuples and ints."""
        self.assertIs(type(net), tuple)
        self.assertEqual(len(net), 2)
        self.assertIs(type(net[0]), int)
        self.assertIs(type(net[1]), tuple)
        for way in net[1]:
            self.assertIs(type(way), tuple)
            self.assertEqual([type(part) for part in way], [int] * 4)


class MadeNet(NetCase):
    def test_lists_and_tuples_at_either_depth(self):
        rows = PLAIN[1]
        for ways in (rows, list(rows), tuple(list(w) for w in rows), [list(w) for w in rows],
                     [list(rows[0]), rows[1], list(rows[2])]):
            with self.subTest(ways=ways):
                net = made_net(3, ways)
                self.assertEqual(net, PLAIN)
                self.plain(net)

    def test_without_ways(self):
        self.assertEqual(made_net(2, []), (2, ()))
        self.assertEqual(made_net(6, ()), (6, ()))

    def test_alike_ways_are_let(self):
        self.assertEqual(made_net(2, [GOOD, GOOD]), (2, (GOOD, GOOD)))

    def test_handed_in_stays_and_is_no_longer_tied(self):
        ways = [[0, 1, 5, 2], [1, 2, 4, 1]]
        kept = copy.deepcopy(ways)
        net = made_net(3, ways)
        self.assertEqual(ways, kept)
        ways[0][2] = 99
        ways.append([0, 2, 1, 1])
        ways[1] = None
        self.assertEqual(net, (3, ((0, 1, 5, 2), (1, 2, 4, 1))))
        self.assertEqual(made_net(3, kept), net)

    def test_how_many_places(self):
        for many in (2, 3, 4, 5, 6):
            self.assertEqual(made_net(many, [GOOD])[0], many)
        for many in (1, 7, 0, -1, -2, 10 ** 40) + NO_NUMBERS + (Endless(),):
            with self.subTest(many=many):
                self.refuses(-1, many, [GOOD])

    def test_ways_are_a_list_or_tuple(self):
        for ways in (None, True, 0, 3, "", "ways", {}, {0: GOOD}, {GOOD}, b"", iter([GOOD]), Endless(), range(0)):
            with self.subTest(ways=ways):
                self.refuses(-1, 2, ways)

    def test_room_and_hours_at_their_bounds(self):
        for way in ((0, 1, 0, 1), (0, 1, 10 ** 9, 1), (0, 1, 1, 1), (0, 1, 1, 10 ** 6)):
            with self.subTest(way=way):
                self.assertEqual(made_net(2, [way]), (2, (way,)))
        for way in ((0, 1, -1, 1), (0, 1, 10 ** 9 + 1, 1), (0, 1, 1, 0), (0, 1, 1, -1), (0, 1, 1, 10 ** 6 + 1)):
            with self.subTest(way=way):
                self.refuses(0, 2, [way])

    def test_places_of_a_way(self):
        for way in ((0, 3, 1, 1), (3, 0, 1, 1), (2, 0, 1, 1), (3, 2, 1, 1)):
            self.assertEqual(made_net(4, [way]), (4, (way,)))
        for way in ((0, 4, 1, 1), (4, 0, 1, 1), (-1, 0, 1, 1), (0, -1, 1, 1), (0, 0, 1, 1), (3, 3, 1, 1)):
            with self.subTest(way=way):
                self.refuses(0, 4, [way])

    def test_what_is_no_number_in_a_way(self):
        for part in range(4):
            for thing in NO_NUMBERS + (Endless(),):
                way = [0, 1, 1, 1]
                way[part] = thing
                with self.subTest(part=part, thing=thing):
                    self.refuses(0, 2, [way])
                    self.refuses(0, 2, [tuple(way)])

    def test_what_is_no_way(self):
        for thing in ((), [], (0, 1, 1), [0, 1, 1], (0, 1, 1, 1, 1), [0, 1, 1, 1, 1], None, 3, "0111",
                      {0: 0, 1: 1, 2: 1, 3: 1}, Endless(), (GOOD,), ((0,), 1, 1, 1)):
            with self.subTest(thing=thing):
                self.refuses(0, 2, [thing])
                self.refuses(2, 2, (GOOD, GOOD, thing))

    def test_a_list_within_itself(self):
        ways = [GOOD]
        ways.append(ways)
        self.refuses(1, 2, ways)

    def test_the_number_goes_ahead_of_the_ways(self):
        self.refuses(-1, 7, [None])
        self.refuses(-1, 1, [GOOD] * 13)

    def test_the_first_that_is_no_way(self):
        self.refuses(1, 2, [GOOD, None, GOOD, "x"])
        self.refuses(0, 2, [(0, 0, 1, 1), None])

    def test_no_way_goes_ahead_of_too_many(self):
        self.refuses(12, 2, [GOOD] * 12 + [None])
        self.refuses(20, 2, [GOOD] * 20 + [(0, 1, 1)])
        self.refuses(3, 2, [GOOD] * 3 + [None] + [GOOD] * 30)

    def test_twelve_ways_and_thirteen(self):
        self.assertEqual(made_net(2, [GOOD] * 12), (2, (GOOD,) * 12))
        for count in (13, 14, 40):
            with self.assertRaises(TooMany):
                made_net(2, [GOOD] * count)

    def test_a_net_told_may_be_handed_in_again(self):
        for net in some_nets(50):
            self.assertEqual(made_net(net[0], net[1]), net)


class OutAndIn(unittest.TestCase):
    def test_rising_numbers(self):
        net = (3, ((0, 2, 1, 1), (1, 2, 0, 1), (0, 1, 5, 2), (2, 0, 1, 1), (0, 2, 1, 1)))
        self.assertEqual([ways_out(net, p) for p in range(3)], [[0, 2, 4], [1], [3]])
        self.assertEqual([ways_in(net, p) for p in range(3)], [[3], [2], [0, 1, 4]])

    def test_none(self):
        self.assertEqual(ways_out(PLAIN, 2), [])
        self.assertEqual(ways_in(PLAIN, 0), [])

    def test_the_list_is_the_askers_own(self):
        for ask in (ways_out, ways_in):
            told = ask(PLAIN, 1)
            kept = list(told)
            told.append(9)
            self.assertEqual(ask(PLAIN, 1), kept)


class PutLessRoom(NetCase):
    def test_put_way_is_the_last(self):
        net = put_way(PLAIN, (2, 0, 0, 9))
        self.assertEqual(net, (3, PLAIN[1] + ((2, 0, 0, 9),)))
        self.plain(net)
        self.assertEqual(PLAIN, (3, ((0, 1, 5, 2), (1, 2, 4, 1), (0, 2, 3, 7))))

    def test_put_way_up_to_twelve(self):
        net = (2, (GOOD,) * 11)
        full = put_way(net, (1, 0, 2, 3))
        self.assertEqual(full, (2, (GOOD,) * 11 + ((1, 0, 2, 3),)))
        with self.assertRaises(TooMany):
            put_way(full, GOOD)
        self.assertEqual(len(full[1]), 12)

    def test_less_way(self):
        for number, left in ((0, (1, 2)), (1, (0, 2)), (2, (0, 1))):
            net = less_way(PLAIN, number)
            self.assertEqual(net, (3, tuple(PLAIN[1][k] for k in left)))
            self.plain(net)
        self.assertEqual(less_way((2, (GOOD,)), 0), (2, ()))

    def test_with_room(self):
        for room in (0, 1, 10 ** 9):
            net = with_room(PLAIN, 1, room)
            self.assertEqual(net, (3, ((0, 1, 5, 2), (1, 2, room, 1), (0, 2, 3, 7))))
            self.plain(net)
        self.assertEqual(with_room(PLAIN, 0, 6)[1][0], (0, 1, 6, 2))
        self.assertEqual(with_room(PLAIN, 2, 6)[1][2], (0, 2, 6, 7))

    def test_a_room_beyond_its_bound_is_not_refused_here(self):
        self.assertEqual(with_room(PLAIN, 0, 10 ** 9 + 1)[1][0][2], 10 ** 9 + 1)

    def test_a_number_that_no_way_has(self):
        for net in (PLAIN, (2, ())):
            for number in (-1, -3, len(net[1]), len(net[1]) + 1, 10 ** 29, -10 ** 29, 10 ** 6000):
                with self.subTest(ways=len(net[1])):
                    with self.assertRaises(NoWay):
                        less_way(net, number)
                    with self.assertRaises(NoWay):
                        with_room(net, number, 1)

    def test_the_net_handed_in_stays(self):
        net = made_net(3, PLAIN[1])
        for change in (lambda: put_way(net, GOOD), lambda: less_way(net, 1), lambda: with_room(net, 1, 8),
                       lambda: turned_net(net), lambda: parted_net(net, 2, 3)):
            self.assertEqual(change(), change())
            self.assertEqual(net, PLAIN)


class Turned(NetCase):
    def test_places_and_ways(self):
        self.assertEqual(turned_net(PLAIN), (3, ((1, 2, 5, 2), (0, 1, 4, 1), (0, 2, 3, 7))))
        self.assertEqual(turned_net((2, ((0, 1, 5, 2), (1, 0, 0, 3)))), (2, ((0, 1, 5, 2), (1, 0, 0, 3))))
        self.assertEqual(turned_net((4, ((0, 1, 7, 2),))), (4, ((2, 3, 7, 2),)))
        self.assertEqual(turned_net((6, ())), (6, ()))

    def test_twice_is_the_net(self):
        for net in some_nets(100):
            once = turned_net(net)
            self.plain(once)
            self.assertEqual(turned_net(once), net)
            for place in range(net[0]):
                self.assertEqual(ways_out(once, net[0] - 1 - place), ways_in(net, place))


class Parted(NetCase):
    def test_amid_the_way_at_the_first_and_the_last_hour(self):
        for hours in (1, 3, 6):
            net = parted_net(PLAIN, 2, hours)
            self.assertEqual(net, (4, ((0, 1, 5, 2), (1, 3, 4, 1), (0, 2, 3, hours), (2, 3, 3, 7 - hours))))
            self.plain(net)

    def test_ways_of_the_old_end_are_of_the_new_one(self):
        net = (3, ((2, 0, 1, 4), (0, 1, 2, 2), (1, 2, 3, 1)))
        self.assertEqual(parted_net(net, 0, 1), (4, ((3, 2, 1, 1), (0, 1, 2, 2), (1, 3, 3, 1), (2, 0, 1, 3))))
        self.assertEqual(parted_net(net, 1, 1), (4, ((3, 0, 1, 4), (0, 2, 2, 1), (1, 3, 3, 1), (2, 1, 2, 1))))

    def test_five_places_and_eleven_ways(self):
        net = (5, ((0, 4, 10 ** 9, 10 ** 6),) * 11)
        self.assertEqual(
            parted_net(net, 10, 10 ** 6 - 1),
            (6, ((0, 5, 10 ** 9, 10 ** 6),) * 10 + ((0, 4, 10 ** 9, 10 ** 6 - 1), (4, 5, 10 ** 9, 1))))

    def test_hours_beyond_the_way(self):
        for number, hours in ((2, 0), (2, 7), (2, 8), (2, -1), (1, 1), (1, 0), (2, 10 ** 29)):
            with self.subTest(number=number, hours=hours):
                with self.assertRaises(BadHour):
                    parted_net(PLAIN, number, hours)

    def test_no_way_ahead_of_bad_hour(self):
        for number in (-1, 3, 10 ** 29):
            for hours in (0, 1, 99):
                with self.assertRaises(NoWay):
                    parted_net(PLAIN, number, hours)


if __name__ == "__main__":
    unittest.main()
