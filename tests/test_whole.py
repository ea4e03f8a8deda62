"""The whole program: its interface, and what it promises across its files."""

import importlib
import inspect
import random
import unittest

from hourhaul.always import always_plan, always_right
from hourhaul.alwayscal import cal_always, cal_always_right, early_row
from hourhaul.bends import bends_of, least_hours
from hourhaul.calendars import net_calendar
from hourhaul.carried import brought_by, plan_right
from hourhaul.closed import closed_hours, closed_sum, most_by
from hourhaul.desk import HaulDesk
from hourhaul.hauls import best_rounds, rounds_bring, rounds_plan
from hourhaul.hournets import lit_sum
from hourhaul.lit import first_lit, last_lit, most_in
from hourhaul.shares import shares_stores
from hourhaul.soonest import soonest_hour, soonest_right
from hourhaul.starts import bring_all, bring_right
from hourhaul.texts import net_text, plan_text, read_net, read_plan
from samples import BACK, FAR, GREAT, NEVER, ODD, PLAIN, some_nets, some_plan

INTERFACE = {
    "nets.made_net": "many, ways",
    "nets.ways_out": "net, place",
    "nets.ways_in": "net, place",
    "nets.put_way": "net, way",
    "nets.less_way": "net, number",
    "nets.with_room": "net, number, room",
    "nets.turned_net": "net",
    "nets.parted_net": "net, number, hours",
    "walks.soonest_hours": "net",
    "walks.soonest_walk": "net, place",
    "walks.all_walks": "net",
    "walks.walk_length": "net, walk",
    "walks.walk_places": "net, walk",
    "plans.laid_plans": "one, other",
    "plans.later_plan": "plan, hours",
    "plans.plan_till": "net, plan, hour",
    "plans.turned_plan": "net, last, plan",
    "carried.plan_right": "net, last, plan",
    "carried.plan_clean": "net, last, plan",
    "carried.stands_at": "net, plan, place, hour",
    "carried.brought_by": "net, plan, hour",
    "carried.sent_from": "net, plan, hour",
    "streams.stream_right": "net, stream",
    "streams.stream_rate": "net, stream",
    "streams.side_room": "net, side",
    "streams.rounds_fit": "net, rounds",
    "streams.rounds_stream": "net, rounds",
    "streams.stream_rounds": "net, stream",
    "fullest.fullest_stream": "net",
    "fullest.fullest_right": "net, told",
    "bends.bends_of": "net",
    "bends.least_hours": "net, rate",
    "light.stream_hours": "net, stream",
    "light.light_stream": "net, rate",
    "light.clocks_right": "net, stream, clocks",
    "closed.most_by": "net, last",
    "closed.closed_hours": "net, last",
    "closed.closed_sum": "net, last, closed",
    "hauls.best_rounds": "net, last",
    "hauls.rounds_bring": "net, last, rounds",
    "hauls.rounds_plan": "net, last, rounds",
    "soonest.soonest_hour": "net, loads",
    "soonest.soonest_right": "net, loads, told",
    "soonest.gain_at": "net, last",
    "soonest.steady_hour": "net",
    "chains.shortest_chains": "net, last",
    "chains.chain_length": "net, chain",
    "chains.chains_right": "net, last, chains",
    "chains.chains_plan": "net, last, chains",
    "always.always_plan": "net, last",
    "always.always_right": "net, last, plan",
    "sums.least_coming": "net, loads",
    "sums.coming_hours": "net, plan",
    "sums.coming_plan": "net, loads",
    "sums.coming_right": "net, loads, told",
    "calendars.made_calendar": "many, last, ways, rooms, waits",
    "calendars.net_calendar": "net, last",
    "calendars.till_calendar": "calendar, hour",
    "calendars.late_calendar": "calendar, hour",
    "calendars.turned_calendar": "calendar",
    "calplans.cal_right": "calendar, plan",
    "calplans.cal_clean": "calendar, plan",
    "calplans.cal_brought": "calendar, plan",
    "calplans.cal_sent": "calendar, plan",
    "calplans.cal_stands": "calendar, plan, place, hour",
    "hournets.lit_sum": "calendar, lit",
    "lit.most_in": "calendar",
    "lit.most_right": "calendar, told",
    "lit.first_lit": "calendar",
    "lit.last_lit": "calendar",
    "lit.narrow_ways": "calendar",
    "alwayscal.early_row": "calendar",
    "alwayscal.late_row": "calendar",
    "alwayscal.cal_always": "calendar",
    "alwayscal.cal_always_right": "calendar, told",
    "starts.most_from": "net, starts, last",
    "starts.closed_from": "net, starts, last",
    "starts.from_sum": "net, starts, last, closed",
    "starts.stores_right": "net, stores, last, plan",
    "starts.bring_all": "net, stores, last",
    "starts.bring_right": "net, stores, last, told",
    "starts.soonest_all": "net, stores",
    "shares.order_shares": "net, order, last",
    "shares.shares_stores": "net, order, last",
    "lanes.open_net": "net",
    "lanes.laned_net": "net, forth",
    "lanes.best_forth": "net, last",
    "lanes.forth_right": "net, last, forth",
    "worths.room_worth": "net, last, number",
    "worths.room_loss": "net, last, number",
    "worths.gap_of": "net, closed, number",
    "texts.net_text": "net",
    "texts.plan_text": "plan",
    "texts.read_net": "thing",
    "texts.read_plan": "thing",
}
ALL = (PLAIN, BACK, GREAT, ODD) + NEVER


class Interface(unittest.TestCase):
    def test_names_and_arguments(self):
        for name, arguments in INTERFACE.items():
            stem, function = name.split(".")
            found = getattr(importlib.import_module("hourhaul." + stem), function)
            self.assertEqual(", ".join(inspect.signature(found).parameters), arguments, name)

    def test_the_desk(self):
        self.assertEqual(list(inspect.signature(HaulDesk).parameters), [])
        self.assertEqual(list(inspect.signature(HaulDesk().say).parameters), ["row"])


class Promise(unittest.TestCase):
    def test_no_plan_brings_more_than_any_closed_hours_and_rounds_bring_as_much_as_the_least(self):
        chance = random.Random(161)
        brought = 0
        for net in list(some_nets(100)) + list(ALL):
            for last in (3, 7, 12):
                plan = some_plan(chance, net, last)
                self.assertIs(plan_right(net, last, plan), True)
                came = brought_by(net, plan, last)
                for _ in range(5):
                    amid = [chance.randint(0, last + 1) for _ in range(net[0] - 2)]
                    self.assertLessEqual(came, closed_sum(net, last, [0] + amid + [last + 1]))
                most = closed_sum(net, last, closed_hours(net, last))
                rounds = best_rounds(net, last)
                self.assertEqual(rounds_bring(net, last, rounds), most)
                self.assertEqual(brought_by(net, rounds_plan(net, last, rounds), last), most)
                brought += came > 0
        self.assertGreater(brought, 100)

    def test_by_a_few_bends_it_holds_for_every_hour(self):
        for net in list(some_nets(100)) + list(ALL):
            bends = bends_of(net)
            for last in (0, 5, 10 ** 6, FAR):
                most = sum(loads * max(0, last - length + 1) for length, loads in bends)
                self.assertEqual(most_by(net, last), most)
                self.assertEqual(closed_sum(net, last, closed_hours(net, last)), most)
                self.assertEqual(rounds_bring(net, last, best_rounds(net, last)), most)
            rate = sum(loads for length, loads in bends)
            self.assertEqual(least_hours(net, rate), sum(length * loads for length, loads in bends))

    def test_where_rooms_change_lit_pairs_stand_for_closed_hours(self):
        for net in list(some_nets(60)) + list(ALL):
            for last in (4, 9):
                calendar = net_calendar(net, last)
                most, plan, lit = most_in(calendar)
                self.assertEqual(most, most_by(net, last))
                for pairs in (lit, first_lit(calendar), last_lit(calendar)):
                    # any may wait, so each place is lit from some hour on: these are closed hours
                    closed = [last + 1 - len([pair for pair in pairs if pair[0] == place]) for place in range(net[0])]
                    self.assertEqual(closed_sum(net, last, closed), lit_sum(calendar, pairs))
                self.assertEqual(early_row(calendar), [most_by(net, hour) for hour in range(last + 1)])

    def test_one_plan_is_best_at_every_hour_in_the_net_and_in_its_calendar(self):
        for net in list(some_nets(40)) + list(ALL):
            for last in (0, 6, 12):
                calendar = net_calendar(net, last)
                told = cal_always(calendar)
                self.assertIs(always_right(net, last, told[0]), True)
                self.assertIs(cal_always_right(calendar, (always_plan(net, last),) + told[1:]), True)

    def test_stores_that_are_shares(self):
        for net in list(some_nets(40)) + list(ALL):
            order = tuple(reversed(range(net[0] - 1)))
            for last in (3, 8, 12):
                told = bring_all(net, shares_stores(net, order, last), last)
                self.assertEqual(told[0], "plan")
                self.assertIs(bring_right(net, shares_stores(net, order, last), last, told), True)

    def test_what_was_told_is_handed_in_again(self):
        for net in list(some_nets(60)) + list(ALL):
            self.assertEqual(read_net(net_text(net)), net)
            for last in (0, 12):
                plan = always_plan(net, last)
                self.assertEqual(read_plan(plan_text(plan)), plan)
                self.assertIs(always_right(net, last, read_plan(plan_text(plan))), True)
            for loads in (1, 10 ** 18):
                self.assertIs(soonest_right(net, loads, soonest_hour(net, loads)), True)


if __name__ == "__main__":
    unittest.main()
