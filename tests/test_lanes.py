import unittest
from itertools import product

from hourhaul.closed import most_by
from hourhaul.errors import HaulError, TooMany, TooMuch
from hourhaul.lanes import best_forth, forth_right, laned_net, open_net
from hourhaul.nets import made_net
from samples import BACK, FAR, G, GREAT, HUGE, NEVER, PLAIN, grown_net, most_by_hours, only_whole, small_nets, some_nets

SIX = (3, ((0, 1, 5, 2), (1, 2, 4, 1), (0, 2, 3, 7), (2, 1, 2, 1), (1, 0, 6, 3), (2, 0, 0, 1)))
SEVEN = (3, SIX[1] + ((0, 1, 0, 1),))
# Way 1 leads from 2 to 1, against all that comes: turned about, it is of use.
AGAINST = (4, ((0, 1, 3, 1), (2, 1, 2, 1), (2, 3, 3, 1)))


def few_ways(nets):
    """The nets with at most their first six ways."""
    return [(net[0], net[1][:6]) for net in nets]


def by_words(net, forth, back):
    there = [(start, to, room, hours) for (start, to, _, hours), room in zip(net[1], forth)]
    return (net[0], tuple(there + [(to, start, room, hours) for (start, to, _, hours), room in zip(net[1], back)]))


def rooms_of(net):
    return tuple(way[2] for way in net[1])


def all_forth(net):
    return product(*(range(room + 1) for room in rooms_of(net)))


class Nets(unittest.TestCase):
    def test_open_both_ways(self):
        self.assertEqual(open_net((2, ())), (2, ()))
        self.assertEqual(open_net(AGAINST), (4, AGAINST[1] + ((1, 0, 3, 1), (1, 2, 2, 1), (3, 2, 3, 1))))
        for net in few_ways(some_nets(100)) + [SIX]:
            self.assertEqual(open_net(net), by_words(net, rooms_of(net), rooms_of(net)))
            self.assertEqual(made_net(*open_net(net)), open_net(net))

    def test_laned(self):
        self.assertEqual(laned_net((2, ()), ()), (2, ()))
        self.assertEqual(
            laned_net(AGAINST, (3, 0, 1)),
            (4, ((0, 1, 3, 1), (2, 1, 0, 1), (2, 3, 1, 1), (1, 0, 0, 1), (1, 2, 2, 1), (3, 2, 2, 1))),
        )
        for forth in ((0,) * 6, rooms_of(SIX), (1, 2, 3, 0, 6, 0), (5, 0, 3, 2, 1, 0)):
            back = [room - there for room, there in zip(rooms_of(SIX), forth)]
            self.assertEqual(laned_net(SIX, forth), by_words(SIX, forth, back))
        great = (2, ((0, 1, G, 10 ** 6),) * 6)
        self.assertEqual(laned_net(great, (G, 0, 1, G - 1, 5, 6))[1][6:],
                         tuple((1, 0, room, 10 ** 6) for room in (0, G, G - 1, 1, G - 5, G - 6)))

    def test_what_is_no_forth(self):
        for forth in (
            (), (5, 4, 3, 2, 6), (5, 4, 3, 2, 6, 0, 0), (-1, 4, 3, 2, 6, 0), (6, 4, 3, 2, 6, 0), (5, 4, 3, 2, 6, 1),
            (5, 4, 3, 2, 6, -1), (5, 4, 3, 2, HUGE, 0), (-HUGE, 4, 3, 2, 6, 0), (0,) * 12,
        ):
            with self.assertRaises(TooMuch):
                laned_net(SIX, forth)
            self.assertIs(forth_right(SIX, 5, forth), False)
        for forth in ((0,), (1,), (-1,), (0, 0)):
            with self.assertRaises(TooMuch):
                laned_net((2, ()), forth)

    def test_more_than_six_ways(self):
        twelve = (2, ((0, 1, 5, 1),) * 12)
        for net in (SEVEN, twelve):
            count = len(net[1])
            for ask in (
                lambda: open_net(net), lambda: best_forth(net, 5), lambda: best_forth(net, FAR),
                lambda: laned_net(net, rooms_of(net)), lambda: laned_net(net, ()),
                lambda: laned_net(net, (-1,) * count), lambda: laned_net(net, (HUGE,) * count),
                lambda: forth_right(net, 5, rooms_of(net)), lambda: forth_right(net, 5, ()),
                lambda: forth_right(net, 5, (-1,) * count),
            ):
                with self.assertRaises(TooMany) as caught:
                    ask()
                self.assertIsInstance(caught.exception, HaulError)


class Best(unittest.TestCase):
    def check(self, net, last):
        forth = best_forth(net, last)
        self.assertIs(type(forth), tuple)
        self.assertTrue(only_whole(forth))
        most = most_by(by_words(net, rooms_of(net), rooms_of(net)), last)
        back = [room - there for room, there in zip(rooms_of(net), forth)]
        self.assertGreaterEqual(min(forth + tuple(back), default=0), 0)
        self.assertEqual(most_by(by_words(net, forth, back), last), most, (net, last, forth))
        self.assertIs(forth_right(net, last, forth), True)
        self.assertEqual(best_forth(net, last), forth)
        return most

    def test_told(self):
        self.assertEqual(self.check(AGAINST, 4), 4)
        self.assertEqual(best_forth(AGAINST, 4)[1], 0)
        self.assertEqual(most_by(AGAINST, 4), 0)
        self.assertEqual(best_forth((2, ()), 4), ())
        self.assertEqual(best_forth((2, ((1, 0, 5, 1),)), 4), (0,))
        self.assertEqual(best_forth((2, ((0, 1, 5, 1),)), 4), (5,))

    def test_hours_nought_small_and_far(self):
        for net in few_ways(some_nets(100)) + few_ways(small_nets(60)) + few_ways(NEVER) + [SIX, AGAINST, PLAIN, BACK]:
            for last in (0, 1, 2, 5, 9, 12, 1000, FAR - 1, FAR):
                self.check(net, last)

    def test_great_rooms(self):
        for net in few_ways(some_nets(60)):
            for last in (0, 3 * 10 ** 5, FAR):
                self.check(grown_net(net, 10 ** 5), last)
        for last in (3, 5, 8, FAR):
            self.check(GREAT, last)

    def test_hour_by_hour(self):
        for net in few_ways(some_nets(40)) + [AGAINST, SIX]:
            for last in (4, 9):
                both = by_words(net, rooms_of(net), rooms_of(net))
                self.assertEqual(self.check(net, last), most_by_hours(both, last))

    def test_of_no_other_forth_numbers_is_it_more_and_the_judge_knows_which_do_as_well(self):
        seen = {True: 0, False: 0}
        tried = [net for net in few_ways(small_nets(200)) if len(list(all_forth(net))) <= 64]
        self.assertGreater(len(tried), 40)
        for net in tried[:60] + [AGAINST]:
            for last in (2, 4, 7, FAR):
                most = self.check(net, last)
                for forth in all_forth(net):
                    back = [room - there for room, there in zip(rooms_of(net), forth)]
                    brought = most_by(by_words(net, forth, back), last)
                    self.assertLessEqual(brought, most)
                    self.assertIs(forth_right(net, last, forth), brought == most)
                    seen[brought == most] += 1
        self.assertGreater(min(seen.values()), 1000)


class Judged(unittest.TestCase):
    def check(self, right, forth, last=4, net=AGAINST):
        kept = tuple(forth)
        self.assertIs(forth_right(net, last, forth), right, (net, last, forth))
        self.assertEqual(forth, kept)

    def test_others_that_do_as_well(self):
        for forth in ((3, 0, 3), (2, 0, 2), (3, 0, 2), (2, 0, 3)):
            self.check(True, forth)
        for forth in ((3, 1, 3), (1, 0, 3), (3, 0, 1), (0, 0, 0), (3, 2, 3)):
            self.check(False, forth)

    def test_all_where_nothing_can_come(self):
        for forth in ((3, 2, 3), (0, 0, 0), (1, 1, 1)):
            self.check(True, forth, 2)
        for forth in ((4, 2, 3), (3, 2), (3, 2, 3, 0), (3, -1, 3), (3, 2, HUGE)):
            self.check(False, forth, 2)
        self.check(True, (), 4, (2, ()))
        self.check(False, (0,), 4, (2, ()))

    def test_one_too_many_one_too_few(self):
        for forth in ((3, 0), (3, 0, 3, 0), (4, 0, 3), (3, -1, 3), (3, 0, 4), (-1, 0, 3), ()):
            self.check(False, forth)

    def test_other_hours_may_want_others(self):
        # soon, all that comes goes over way 1; late, what goes beside it brings more, and its lanes are free
        net = (4, ((0, 1, 1, 1), (1, 2, 1, 1), (2, 3, 1, 1), (0, 2, 1, 5), (1, 3, 1, 5)))
        for last in (3, 4, 5, 12, FAR):
            self.check(True, best_forth(net, last), last, net)
        self.check(True, (1, 1, 1, 1, 1), 3, net)
        self.check(False, (1, 0, 1, 1, 1), 3, net)
        self.check(True, (1, 0, 1, 1, 1), FAR, net)


if __name__ == "__main__":
    unittest.main()
