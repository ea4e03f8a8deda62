import unittest

from hourhaul.errors import NoWalk, TooMany
from hourhaul.walks import all_walks, soonest_hours, soonest_walk, walk_length, walk_places
from samples import PLAIN, hours_of, some_nets, walks_between


class Soonest(unittest.TestCase):
    def test_hours(self):
        self.assertEqual(soonest_hours(PLAIN), [0, 2, 3])
        self.assertEqual(soonest_hours((2, ())), [0, None])

    def test_ways_without_room_are_not_gone(self):
        net = (3, ((0, 1, 0, 1), (1, 2, 1, 1), (0, 2, 1, 9), (2, 1, 1, 5)))
        self.assertEqual(soonest_hours(net), [0, 14, 9])
        self.assertEqual(soonest_walk(net, 1), (2, 3))
        self.assertEqual(soonest_hours((2, ((0, 1, 0, 1),))), [0, None])

    def test_the_begin_is_no_way_off_whatever_leads_back(self):
        net = (2, ((0, 1, 1, 1), (1, 0, 1, 1)))
        self.assertEqual(soonest_hours(net), [0, 1])
        self.assertEqual(soonest_walk(net, 0), ())
        self.assertEqual(soonest_walk((2, ()), 0), ())

    def test_a_walk_may_pass_the_end(self):
        net = (3, ((0, 2, 1, 1), (2, 1, 1, 1), (0, 1, 1, 3)))
        self.assertEqual(soonest_hours(net), [0, 2, 1])
        self.assertEqual(soonest_walk(net, 1), (0, 1))

    def test_no_walk(self):
        net = (4, ((1, 0, 1, 1), (0, 2, 0, 1), (3, 2, 1, 1)))
        for place in (1, 2, 3):
            with self.assertRaises(NoWalk):
                soonest_walk(net, place)
        for place in (-1, 4):
            with self.assertRaises(NoWalk):
                soonest_walk(net, place)

    def test_of_several_shortest_the_least(self):
        net = (4, ((1, 3, 1, 1), (0, 2, 1, 1), (0, 1, 1, 1), (2, 3, 1, 1), (0, 3, 1, 2)))
        self.assertEqual(soonest_walk(net, 3), (1, 3))
        self.assertEqual(soonest_walk((2, ((0, 1, 1, 5), (0, 1, 1, 2), (0, 1, 1, 2))), 1), (1,))
        more_steps = (3, ((0, 1, 1, 1), (0, 2, 1, 2), (1, 2, 1, 1)))
        self.assertEqual(soonest_walk(more_steps, 2), (0, 2))

    def test_a_lower_number_that_is_no_shortest_one(self):
        net = (3, ((0, 1, 1, 1), (1, 2, 1, 5), (0, 2, 1, 3)))
        self.assertEqual(soonest_walk(net, 2), (2,))

    def test_a_lower_number_into_a_place_without_a_way_on(self):
        net = (3, ((0, 1, 1, 1), (0, 2, 1, 3)))
        self.assertEqual(soonest_walk(net, 2), (1,))

    def test_long_hours(self):
        net = (6, tuple((p, p + 1, 1, 10 ** 6) for p in range(5)))
        self.assertEqual(soonest_hours(net), [p * 10 ** 6 for p in range(6)])

    def test_against_all_walks_tried(self):
        for net in some_nets(150):
            hours = []
            for place in range(net[0]):
                tried = [(hours_of(net, walk), walk) for walk in walks_between(net, 0, place)]
                if tried:
                    self.assertEqual(soonest_walk(net, place), min(tried)[1])
                    hours.append(min(tried)[0])
                else:
                    hours.append(None)
                    self.assertRaises(NoWalk, soonest_walk, net, place)
            self.assertEqual(soonest_hours(net), hours)

    def test_the_list_is_the_askers_own(self):
        soonest_hours(PLAIN)[1] = 99
        self.assertEqual(soonest_hours(PLAIN), [0, 2, 3])


class AllWalks(unittest.TestCase):
    def test_rising(self):
        self.assertEqual(all_walks(PLAIN), [(0, 1), (2,)])
        net = (4, ((2, 3, 1, 1), (0, 2, 1, 1), (0, 1, 1, 1), (1, 2, 1, 1), (1, 3, 1, 1), (2, 1, 1, 1), (0, 3, 1, 1)))
        self.assertEqual(all_walks(net), [(1, 0), (1, 5, 4), (2, 3, 0), (2, 4), (6,)])

    def test_none(self):
        self.assertEqual(all_walks((2, ())), [])
        self.assertEqual(all_walks((2, ((0, 1, 0, 1), (1, 0, 5, 1)))), [])

    def test_the_end_is_not_passed_on_the_way_to_it(self):
        net = (3, ((0, 2, 1, 1), (2, 1, 1, 1), (1, 2, 1, 1), (1, 0, 1, 1)))
        self.assertEqual(all_walks(net), [(0,)])

    def test_against_all_walks_tried(self):
        for net in some_nets(150):
            self.assertEqual(all_walks(net), walks_between(net, 0, net[0] - 1))

    # 5 * 4 * 3 walks over three hops.
    SIXTY = ((0, 1, 1, 1),) * 5 + ((1, 2, 1, 1),) * 4 + ((2, 3, 1, 1),) * 3

    def test_sixty_are_told(self):
        walks = all_walks((4, self.SIXTY))
        self.assertEqual(len(walks), 60)
        self.assertEqual(walks, walks_between((4, self.SIXTY), 0, 3))

    def test_sixty_one_are_refused(self):
        # No net of twelve ways has just sixty-one walks, so here is a way more.
        self.assertRaises(TooMany, all_walks, (4, self.SIXTY + ((0, 3, 1, 1),)))
        self.assertEqual(len(all_walks((4, self.SIXTY + ((0, 3, 0, 1),)))), 60)
        self.assertEqual(len(all_walks((4, self.SIXTY + ((3, 0, 1, 1),)))), 60)

    def test_more_than_sixty_of_twelve_ways_are_refused(self):
        # (2 * 3 + 1) * 3 * 3 walks, the fewest above sixty that twelve ways have.
        ways = ((0, 1, 1, 1),) * 2 + ((1, 2, 1, 1),) * 3 + ((0, 2, 1, 1),) + ((2, 3, 1, 1),) * 3 + ((3, 4, 1, 1),) * 3
        self.assertRaises(TooMany, all_walks, (5, ways))
        self.assertEqual(len(all_walks((5, ways[:5] + ways[6:]))), 54)

    def test_the_list_is_the_askers_own(self):
        all_walks(PLAIN).clear()
        self.assertEqual(all_walks(PLAIN), [(0, 1), (2,)])


class OneWalk(unittest.TestCase):
    NET = (4, ((0, 1, 1, 2), (1, 2, 3, 4), (2, 3, 1, 8), (2, 0, 1, 16), (1, 3, 0, 32), (3, 1, 1, 64), (0, 1, 1, 128)))

    def test_lengths_and_places(self):
        for walk, length, places in (
            ((0,), 2, (0, 1)), ((0, 1), 6, (0, 1, 2)), ((0, 1, 2), 14, (0, 1, 2, 3)), ((6, 1, 2), 140, (0, 1, 2, 3)),
            ((1, 2), 12, (1, 2, 3)), ((1, 3), 20, (1, 2, 0)), ((2, 5), 72, (2, 3, 1)), ((3, 0), 18, (2, 0, 1)),
            ((5,), 64, (3, 1)), ((5, 1, 3), 84, (3, 1, 2, 0)),
        ):
            with self.subTest(walk=walk):
                self.assertEqual(walk_length(self.NET, walk), length)
                self.assertEqual(walk_places(self.NET, walk), places)
                self.assertIs(type(walk_places(self.NET, walk)), tuple)

    def test_the_walk_of_no_steps(self):
        self.assertEqual(walk_length(self.NET, ()), 0)
        self.assertEqual(walk_length((2, ()), ()), 0)

    def test_no_walks(self):
        for why, walk in (
            ("no such way", (7,)), ("no such way", (0, 7)), ("no such way", (10 ** 29,)),
            ("below 0", (-1,)), ("below 0", (-7,)), ("below 0", (0, -6)), ("below 0", (-10 ** 29,)),
            ("no room", (4,)), ("no room", (0, 4)),
            ("back to the first place", (0, 1, 3)), ("a place twice", (0, 1, 2, 5)), ("a place twice", (1, 2, 5)),
            ("a way twice", (0, 0)), ("don't join", (0, 2)), ("don't join", (1, 0)), ("don't join", (0, 6)),
            ("don't join", (2, 3)),
        ):
            for ask in (walk_length, walk_places):
                with self.subTest(why, walk=walk, ask=ask.__name__):
                    self.assertRaises(NoWalk, ask, self.NET, walk)

    def test_no_ways_at_all(self):
        for ask in (walk_length, walk_places):
            for number in (-1, 0, 1):
                self.assertRaises(NoWalk, ask, (2, ()), (number,))

    def test_every_row_of_up_to_three_numbers(self):
        net = (3, ((0, 1, 1, 1), (1, 2, 1, 2), (2, 0, 1, 4), (1, 0, 1, 8), (0, 2, 0, 16)))
        right = {walk for start in range(3) for to in range(3) for walk in walks_between(net, start, to)} - {()}
        numbers = range(-2, 7)
        rows = [(a,) for a in numbers] + [(a, b) for a in numbers for b in numbers]
        rows += [row + (c,) for row in rows if len(row) == 2 for c in numbers]
        for row in rows:
            with self.subTest(row=row):
                if row in right:
                    self.assertEqual(walk_length(net, row), hours_of(net, row))
                    self.assertEqual(walk_places(net, row)[0], net[1][row[0]][0])
                    self.assertEqual(walk_places(net, row)[1:], tuple(net[1][number][1] for number in row))
                else:
                    self.assertRaises(NoWalk, walk_length, net, row)
                    self.assertRaises(NoWalk, walk_places, net, row)


if __name__ == "__main__":
    unittest.main()
