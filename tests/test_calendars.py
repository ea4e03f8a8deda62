import copy
import random
import unittest

from cal_samples import some_cal_plan, some_calendars
from hourhaul.calendars import late_calendar, made_calendar, net_calendar, till_calendar, turned_calendar
from hourhaul.calplans import cal_brought, cal_clean, cal_sent
from hourhaul.errors import BadTable, HaulError
from hourhaul.nets import turned_net
from samples import BACK, G, GREAT, HUGE, NEVER, ODD, PLAIN, only_whole, some_nets

# Place 1 has rooms to wait, place 2 lets any wait.
MANY, LAST = 4, 3
WAYS = ((0, 1, 1), (1, 3, 2), (0, 2, 1), (2, 3, 1))
ROOMS = ((5, 6, 7, 8), (1, 2, 3, 4), (0, 0, G, 0), (9, 9, 9, 9))
WAITS = (None, (3, 0, 2), None, None)
CALENDAR = (MANY, LAST, WAYS, ROOMS, WAITS)

NO_WHOLES = (True, False, None, "", "3", "three", [], [3], (), (3,), {}, {3: 3}, {3}, object, object(), 3j, b"3")
BEYOND = (HUGE, -HUGE, -1)


def with_part(rows, *path_and_new):
    """A copy with another thing at the path."""
    *path, new = path_and_new
    if not path:
        return new
    parts = list(rows)
    parts[path[0]] = with_part(parts[path[0]], *path[1:], new)
    return tuple(parts)


def all_lists(thing):
    return [all_lists(part) for part in thing] if isinstance(thing, (list, tuple)) else thing


def wrong_things():
    """For each of the five its number and things that it can't be."""
    rows = ("", "0000", None, True, 4, HUGE, {}, {0: 1}, {1}, object(), range(4), b"1234", iter(()))
    yield 0, NO_WHOLES + BEYOND + (1, 7, 0)
    yield 1, NO_WHOLES + BEYOND + (13, 14)
    ways = list(rows) + [WAYS * 3 + WAYS[:1], ((0, 1, 1),) * 13, ["a way"], [None], [()], [[]], [(0, 1)]]
    ways += [[(0, 1, 1, 1)], [(0, 1, 1), "no way"], [{0: 0, 1: 1, 2: 1}], [True], [5], ["011"]]
    ways += [[(1, 1, 1)], [(0, 0, 1)], with_part(WAYS, 1, 1, 1)]
    for wrong in NO_WHOLES + BEYOND + (4,):
        ways += [[(wrong, 1, 1)], [(1, wrong, 1)], with_part(WAYS, 3, 1, wrong)]
    for wrong in NO_WHOLES + BEYOND + (0, 10 ** 6 + 1):
        ways += [[(0, 1, wrong)], with_part(WAYS, 3, 2, wrong)]
    yield 2, ways
    rooms = list(rows) + [ROOMS[:3], ROOMS + ROOMS[:1], (), [], with_part(ROOMS, 3, None), with_part(ROOMS, 0, 5)]
    rooms += [with_part(ROOMS, 1, row) for row in ((), (1, 2, 3), (1, 2, 3, 4, 5), "1234", {0: 1}, range(4), True)]
    for wrong in NO_WHOLES + BEYOND + (G + 1,):
        rooms += [with_part(ROOMS, 0, 0, wrong), with_part(ROOMS, 3, 3, wrong)]
    yield 3, rooms
    waits = list(rows) + [WAITS[:3], WAITS + (None,), (), [], (None,) * 3, (None,) * 5]
    waits += [with_part(WAITS, 1, row) for row in ((), (3, 0), (3, 0, 2, 1), "302", {0: 1}, range(3), True, 0, G)]
    waits += [with_part(WAITS, place, (3, 0, 2)) for place in (0, 3)]
    waits += [with_part(WAITS, place, ()) for place in (0, 2, 3)]
    for wrong in NO_WHOLES + BEYOND + (G + 1,):
        waits += [with_part(WAITS, 1, 0, wrong), with_part(WAITS, 1, 2, wrong)]
        if wrong is not None:
            waits += [with_part(WAITS, place, wrong) for place in range(4)]
    yield 4, waits


class Made(unittest.TestCase):
    def check(self, *things):
        told = made_calendar(*things)
        self.assertEqual(told[:2], things[:2])
        self.assertTrue(only_whole(told[:4]))
        self.assertEqual([type(thing) for thing in told], [int, int, tuple, tuple, tuple])
        for rows in told[2:]:
            self.assertTrue(all(row is None or type(row) is tuple for row in rows))
        self.assertEqual(all_lists(told), all_lists(things))
        self.assertEqual(made_calendar(*told), told)
        return told

    def test_lists_for_tuples_at_every_depth(self):
        self.assertEqual(self.check(*CALENDAR), CALENDAR)
        self.assertEqual(self.check(*all_lists(CALENDAR)), CALENDAR)
        self.assertEqual(self.check(4, 3, list(WAYS), ROOMS, list(WAITS)), CALENDAR)
        self.assertEqual(self.check(4, 3, WAYS, [list(row) for row in ROOMS], WAITS), CALENDAR)
        mixed = [list(WAYS[0])] + list(WAYS[1:])
        self.assertEqual(self.check(4, 3, mixed, ROOMS, with_part(WAITS, 1, [3, 0, 2])), CALENDAR)

    def test_at_the_bounds(self):
        self.check(2, 0, (), (), (None, None))
        self.check(6, 12, (), (), (None,) * 6)
        self.check(6, 12, ((0, 5, 10 ** 6),) * 12, ((0,) * 12 + (G,),) * 12, (None, (G,) * 12, (0,) * 12) + (None,) * 3)
        self.check(2, 0, ((1, 0, 1),), ((G,),), (None, None))

    def test_an_hour_of_nought_has_rows_of_no_waits(self):
        self.assertEqual(self.check(3, 0, [[0, 1, 1]], [[4]], [None, [], None])[4], (None, (), None))
        self.check(3, 0, [], [], (None, None, None))
        for wrong in ((0,), [0], (None,), [[]], "", 0):
            self.refuse(4, [3, 0, [], [], [None, wrong, None]])

    def refuse(self, at, things):
        kept = [thing if isinstance(thing, type(iter(()))) else copy.copy(thing) for thing in things]
        with self.assertRaises(BadTable) as caught:
            made_calendar(*things)
        self.assertEqual(caught.exception.at, at, things)
        self.assertIsInstance(caught.exception, HaulError)
        for thing, before in zip(things, kept):
            if isinstance(thing, (list, tuple, dict)):
                self.assertEqual(thing, before)

    def test_each_of_the_five_alone(self):
        seen = 0
        for at, wrongs in wrong_things():
            for wrong in wrongs:
                things = list(CALENDAR)
                things[at] = wrong
                self.refuse(at, things)
                things = all_lists(CALENDAR)
                things[at] = all_lists(wrong)
                self.refuse(at, things)
                seen += 1
        self.assertGreater(seen, 250)

    def test_of_two_at_once_the_first_counts(self):
        chance = random.Random(92)
        wrong = {at: list(wrongs) for at, wrongs in wrong_things()}
        for one in range(5):
            for other in range(one + 1, 5):
                for _ in range(60):
                    things = list(CALENDAR)
                    things[one] = chance.choice(wrong[one])
                    things[other] = chance.choice(wrong[other])
                    self.refuse(one, things)
        for _ in range(100):
            self.refuse(0, [chance.choice(wrong[at]) for at in range(5)])

    def test_measured_by_those_ahead(self):
        # right for themselves, but not with as many places, hours or ways
        self.refuse(2, [3, 3, WAYS, ROOMS, WAITS])
        self.refuse(3, [4, 2, WAYS, ROOMS, WAITS])
        self.refuse(3, [4, 4, WAYS, ROOMS, WAITS])
        self.refuse(3, [4, 3, WAYS[:3], ROOMS, WAITS])
        self.refuse(4, [5, 3, WAYS, ROOMS, WAITS])
        self.refuse(4, [4, 2, WAYS, tuple(row[:3] for row in ROOMS), WAITS])

    def test_twelve_ways_and_thirteen(self):
        self.check(4, 3, WAYS * 3, ROOMS * 3, WAITS)
        self.refuse(2, [4, 3, WAYS * 3 + WAYS[:1], ROOMS * 3 + ROOMS[:1], WAITS])

    def test_what_is_handed_in_stays_and_changed_afterwards_changes_nothing(self):
        things = all_lists(CALENDAR)
        kept = copy.deepcopy(things)
        told = made_calendar(*things)
        self.assertEqual(things, kept)
        things[2][0][2] = 99
        things[2].clear()
        things[3][0].clear()
        things[4][1][0] = 77
        self.assertEqual(told, CALENDAR)


class OfANet(unittest.TestCase):
    def test_rooms_in_all_hours(self):
        self.assertEqual(
            net_calendar(PLAIN, 2),
            (3, 2, ((0, 1, 2), (1, 2, 1), (0, 2, 7)), ((5, 5, 5), (4, 4, 4), (3, 3, 3)), (None, None, None)),
        )
        self.assertEqual(net_calendar(PLAIN, 0)[1:4:2], (0, ((5,), (4,), (3,))))
        self.assertEqual(net_calendar((2, ()), 12), (2, 12, (), (), (None, None)))

    def test_they_are_calendars(self):
        for net in list(some_nets(60)) + [BACK, GREAT, ODD] + list(NEVER):
            for last in (0, 1, 7, 12):
                told = net_calendar(net, last)
                self.assertEqual(made_calendar(*told), told)
                self.assertTrue(all(row == (way[2],) * (last + 1) for way, row in zip(net[1], told[3])))
                self.assertEqual(told[2], tuple((way[0], way[1], way[3]) for way in net[1]))


class Till(unittest.TestCase):
    def test_told(self):
        self.assertEqual(till_calendar(CALENDAR, 3), CALENDAR)
        self.assertEqual(
            till_calendar(CALENDAR, 2),
            (4, 2, WAYS, ((5, 6, 7), (1, 2, 3), (0, 0, G), (9, 9, 9)), (None, (3, 0), None, None)),
        )
        self.assertEqual(
            till_calendar(CALENDAR, 1), (4, 1, WAYS, ((5, 6), (1, 2), (0, 0), (9, 9)), (None, (3,), None, None)),
        )
        self.assertEqual(till_calendar(CALENDAR, 0), (4, 0, WAYS, ((5,), (1,), (0,), (9,)), (None, (), None, None)))
        self.assertEqual(till_calendar((2, 0, (), (), (None, None)), 0), (2, 0, (), (), (None, None)))

    def test_drawn(self):
        for calendar in some_calendars(80):
            for hour in range(calendar[1] + 1):
                told = till_calendar(calendar, hour)
                self.assertEqual(made_calendar(*told), told)
                self.assertEqual((told[0], told[1], told[2]), (calendar[0], hour, calendar[2]))
                for row, old in zip(told[3], calendar[3]):
                    self.assertEqual(row, old[:hour + 1])
                for row, old in zip(told[4], calendar[4]):
                    self.assertEqual(row, old if old is None else old[:hour])
            self.assertEqual(till_calendar(calendar, calendar[1]), calendar)


class Late(unittest.TestCase):
    def test_told(self):
        self.assertEqual(late_calendar(CALENDAR, 0), CALENDAR)
        for hour, rows in (
            (1, ((0, 6, 7, 8), (0, 0, G, 0))), (2, ((0, 0, 7, 8), (0, 0, G, 0))), (3, ((0, 0, 0, 8), (0, 0, 0, 0))),
        ):
            self.assertEqual(late_calendar(CALENDAR, hour), (4, 3, WAYS, (rows[0], ROOMS[1], rows[1], ROOMS[3]), WAITS))

    def test_ways_to_the_begin_keep_their_rooms(self):
        calendar = (2, 2, ((1, 0, 1), (0, 1, 5)), ((1, 2, 3), (4, 5, 6)), (None, None))
        self.assertEqual(late_calendar(calendar, 2)[3], ((1, 2, 3), (0, 0, 6)))

    def test_drawn(self):
        for calendar in some_calendars(80):
            for hour in range(calendar[1] + 1):
                told = late_calendar(calendar, hour)
                self.assertEqual(made_calendar(*told), told)
                self.assertEqual(told[:3] + told[4:], calendar[:3] + calendar[4:])
                for way, row, old in zip(calendar[2], told[3], calendar[3]):
                    for at, room in enumerate(row):
                        self.assertEqual(room, 0 if way[0] == 0 and at < hour else old[at])


class Turned(unittest.TestCase):
    def test_told(self):
        self.assertEqual(
            turned_calendar(CALENDAR),
            (4, 3, ((2, 3, 1), (0, 2, 2), (1, 3, 1), (0, 1, 1)),
             ((7, 6, 5, 0), (2, 1, 0, 0), (G, 0, 0, 0), (9, 9, 9, 0)), (None, None, (2, 0, 3), None)),
        )

    def test_ways_of_more_hours_than_the_last(self):
        calendar = (2, 2, ((0, 1, 2), (0, 1, 3), (1, 0, 10 ** 6)), ((1, 2, 3), (4, 5, 6), (7, 8, 9)), (None, None))
        self.assertEqual(turned_calendar(calendar)[3], ((1, 0, 0), (0, 0, 0), (0, 0, 0)))

    def test_the_hour_nought(self):
        self.assertEqual(
            turned_calendar((3, 0, ((0, 1, 1),), ((4,),), (None, (), None))),
            (3, 0, ((1, 2, 1),), ((0,),), (None, (), None)),
        )

    def test_by_the_words_of_the_document(self):
        for calendar in some_calendars(120):
            many, last, ways, rooms, waits = calendar
            told = turned_calendar(calendar)
            self.assertEqual(made_calendar(*told), told)
            self.assertEqual(told[:2], (many, last))
            for (start, to, hours), old, row, other in zip(ways, rooms, told[3], told[2]):
                self.assertEqual(other, (many - 1 - to, many - 1 - start, hours))
                for hour in range(last + 1):
                    was = last - hour - hours
                    self.assertEqual(row[hour], old[was] if was >= 0 else 0)
            for place in range(many):
                old = waits[many - 1 - place]
                if old is None:
                    self.assertIsNone(told[4][place])
                else:
                    self.assertEqual(list(told[4][place]), [old[last - hour - 1] for hour in range(last)])

    def test_turned_twice_only_rooms_from_which_nothing_comes_out_are_gone(self):
        for calendar in some_calendars(80):
            many, last, ways, rooms, waits = calendar
            kept = tuple(
                tuple(room if hour + way[2] <= last else 0 for hour, room in enumerate(row))
                for way, row in zip(ways, rooms)
            )
            self.assertEqual(turned_calendar(turned_calendar(calendar)), (many, last, ways, kept, waits))

    def test_of_a_net_its_turned_nets_rooms(self):
        for net in some_nets(60):
            for last in (0, 5, 12):
                told = turned_calendar(net_calendar(net, last))
                other = net_calendar(turned_net(net), last)
                self.assertEqual(told[:3] + told[4:], other[:3] + other[4:])
                for way, row in zip(net[1], told[3]):
                    self.assertEqual(list(row), [way[2] if hour + way[3] <= last else 0 for hour in range(last + 1)])

    def test_a_clean_plan_turned_about_is_clean_there(self):
        chance = random.Random(93)
        seen = 0
        for calendar in some_calendars(400):
            plan = some_cal_plan(chance, calendar)
            last = calendar[1]
            turned = sorted((last - hour - calendar[2][way][2], way, loads) for hour, way, loads in plan)
            other = turned_calendar(calendar)
            self.assertEqual(cal_clean(other, turned), cal_clean(calendar, plan))
            if cal_clean(calendar, plan):
                self.assertEqual(cal_brought(other, turned), cal_sent(calendar, plan)[::-1])
                self.assertEqual(cal_sent(other, turned), cal_brought(calendar, plan)[::-1])
                seen += len(plan) > 1
        self.assertGreater(seen, 20)


class HandedIn(unittest.TestCase):
    def test_nothing_is_changed_and_the_same_is_told_again(self):
        for calendar in some_calendars(20):
            for told in (
                lambda: till_calendar(calendar, calendar[1] // 2), lambda: late_calendar(calendar, calendar[1] // 2),
                lambda: turned_calendar(calendar),
            ):
                kept = copy.deepcopy(calendar)
                self.assertEqual(told(), told())
                self.assertEqual(calendar, kept)


if __name__ == "__main__":
    unittest.main()
