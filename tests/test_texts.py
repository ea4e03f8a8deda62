import random
import re
import unittest

from hourhaul.always import always_plan
from hourhaul.errors import HaulError, NoText
from hourhaul.texts import net_text, plan_text, read_net, read_plan
from samples import BACK, G, GREAT, HUGE, NEVER, ODD, PLAIN, only_whole, some_nets

NUMBER = "(0|[1-9][0-9]{0,29})"
THIRTY = "9" * 30
TWELVE = (6, ((0, 5, G, 10 ** 6),) * 12)


def bad_net_piece(thing):
    """The number of the first piece of a net's text that can't stand where it stands, None where all can."""
    if not isinstance(thing, str):
        return -1
    pieces = thing.split("; ")
    first = re.fullmatch("net ([2-6])", pieces[0], re.ASCII)
    if first is None:
        return 0
    for at, piece in enumerate(pieces[1:], 1):
        found = re.fullmatch(f"{NUMBER}-{NUMBER} {NUMBER} {NUMBER}", piece)
        if found is None or at == 13:
            return at
        start, to, room, hours = map(int, found.groups())
        if max(start, to) >= int(first[1]) or start == to or room > G or not 1 <= hours <= 10 ** 6:
            return at
    return None


def bad_plan_piece(thing):
    """The like of a plan's text."""
    if not isinstance(thing, str):
        return -1
    if thing == "-":
        return None
    pieces = thing.split(" ")
    ahead = None
    for at, piece in enumerate(pieces):
        if at == 1 and pieces[0] == "-":
            return 1
        found = re.fullmatch(f"{NUMBER}:{NUMBER}:{NUMBER}", piece)
        if found is None and (at, piece) != (0, "-"):
            return at
        if found is not None:
            hour, way, loads = map(int, found.groups())
            if way > 11 or loads < 1 or (ahead is not None and (hour, way) <= ahead):
                return at
            ahead = (hour, way)
    return None


class Reading(unittest.TestCase):
    def refused(self, read, at, thing):
        with self.assertRaises(NoText, msg=repr(thing)) as caught:
            read(thing)
        self.assertEqual(caught.exception.at, at, repr(thing))
        self.assertIsInstance(caught.exception, HaulError)

    def spoilt(self, chance, text):
        """The text with one sign gone, changed or put in, or with two pieces exchanged."""
        place = chance.randrange(len(text) + 1)
        sign = chance.choice(" 0123456789;:-+nx")
        pieces = re.split("(; | )", text)
        one, other = chance.randrange(len(pieces)), chance.randrange(len(pieces))
        pieces[one], pieces[other] = pieces[other], pieces[one]
        return chance.choice((
            text[:place] + text[place + 1:], text[:place] + sign + text[place:], text[:place] + sign + text[place + 1:],
            "".join(pieces), text + sign, sign + text,
        ))


class Nets(Reading):
    def check(self, text, net):
        self.assertEqual(net_text(net), text)
        told = read_net(text)
        self.assertEqual(told, net)
        self.assertTrue(only_whole(told))
        self.assertTrue(type(told) is type(told[1]) is tuple and all(type(way) is tuple for way in told[1]))
        self.assertIsNone(bad_net_piece(text))

    def no_net(self, at, thing):
        self.refused(read_net, at, thing)
        self.assertEqual(bad_net_piece(thing), at, repr(thing))

    def test_the_documents_own(self):
        self.check("net 3; 0-1 5 2; 1-2 4 1", (3, ((0, 1, 5, 2), (1, 2, 4, 1))))

    def test_the_least_and_the_greatest(self):
        self.check("net 2", (2, ()))
        self.check("net 6", (6, ()))
        self.check("net 2; 1-0 0 1", (2, ((1, 0, 0, 1),)))
        self.check("net 6" + "; 0-5 1000000000 1000000" * 12, TWELVE)
        for net in list(some_nets(100)) + [PLAIN, BACK, GREAT, ODD] + list(NEVER):
            self.check(net_text(net), net)

    def test_what_is_no_text(self):
        for thing in (
            None, 0, 2, -1, True, False, [], ["net 2"], ("net 2",), {}, {"net": 2}, b"net 2", (2, ()), object(),
        ):
            self.no_net(-1, thing)

    def test_the_first_piece(self):
        for text in (
            "", " ", "net", "net ", "net  2", "net 2 ", " net 2", "Net 2", "NET 2", "net2", "net 1", "net 0", "net 7",
            "net 02", "net +2", "net -2", "net 2.0", "net two", "net 10", "net " + THIRTY, "net " + THIRTY + "9",
            "net 2 3", "plan 2", "2", "0-1 5 2", "; net 2", ";net 2", "net 2;", "net 2;0-1 5 2", "net 2 ; 0-1 5 2",
            "net 2, 0-1 5 2", "net\t2", "net 2\n", "net \u0662", "net \u00b2", "net 2 0-1 5 2", "-", "net -",
        ):
            self.no_net(0, text)

    def test_ways(self):
        for way in (
            "", " ", "0-1", "0-1 5", "0-1 5 2 1", "0-1 5 2 ", " 0-1 5 2", "0-1  5 2", "0-1 5  2", "0 -1 5 2",
            "0- 1 5 2", "0 1 5 2", "0-1-5 2", "0-1-2 5 2", "-1 5 2", "0- 5 2", "0--1 5 2", "0_1 5 2", "01 5 2",
            "0-1:5:2",
            "00-1 5 2", "0-01 5 2", "0-1 05 2", "0-1 5 02", "0-1 00 2", "+0-1 5 2", "0-+1 5 2", "0-1 +5 2", "0-1 5 +2",
            "0-1 -5 2", "0-1 5 -2", "-0-1 5 2", "0-1 5.0 2", "0-1 5 2;", "0-1 5 2,", "a-1 5 2", "0-b 5 2", "0-1 c 2",
            "0-1 5 d", "0-0 5 2", "2-2 5 2", "0-3 5 2", "3-0 5 2", "0-" + THIRTY + " 5 2", "0-1 1000000001 2",
            "0-1 " + THIRTY + " 2", "0-1 " + THIRTY + "9 2", "0-1 5 0", "0-1 5 1000001", "0-1 5 " + THIRTY,
            "0-1 5 1" + "0" * 30, "0-1 5 2;1-2 4 1", "net 3", "0-1 5 2 ;", "0-1\t5 2", "0-1 5 2\n", "0-1 \u0665 2",
            "0-1 5 \u00b2", "-", "\uff10-1 5 2",
        ):
            self.no_net(1, "net 3; " + way)
            self.no_net(2, "net 3; 1-2 4 1; " + way)
            self.no_net(1, "net 3; " + way + "; " + way)
            self.no_net(1, "net 3; " + way + "; 1-2 4 1")

    def test_the_first_piece_of_several_that_cannot_stand(self):
        self.no_net(0, "net 7; 0-0 5 2")
        self.no_net(2, "net 3; 0-1 5 2; 0-3 5 2; 0-1 5 0")
        self.no_net(1, "net 3; ; 0-1 5 2")
        self.no_net(1, "net 3;  ; 0-1 5 2")
        self.no_net(2, "net 3; 0-1 5 2; ")
        self.no_net(2, "net 3; 0-1 5 2; ; ")
        self.no_net(1, "net 3; 0-1 5 2;")

    def test_a_thirteenth_way(self):
        self.no_net(13, net_text(TWELVE) + "; 0-5 1 1")
        self.no_net(13, net_text(TWELVE) + "; 0-5 1 1; 0-5 1 1")
        self.no_net(13, net_text(TWELVE) + "; ")
        self.no_net(13, net_text(TWELVE) + "; x; 0-0 1 1")
        self.no_net(12, "net 2" + "; 0-1 1 1" * 11 + "; 0-0 1 1; 0-1 1 1")

    def test_long_texts(self):
        self.no_net(0, "9" * 1100)
        self.no_net(0, " " * 1100)
        self.no_net(1, "net 2" + "; " * 500)
        self.no_net(1, "net 2; 0-1 " + "1" * 1000 + " 1")

    def test_spoilt(self):
        chance = random.Random(141)
        seen = {}
        for net in list(some_nets(200)) + [TWELVE]:
            text = net_text(net)
            for _ in range(12):
                tried = self.spoilt(chance, text)
                at = bad_net_piece(tried)
                if at is None:
                    self.assertEqual(net_text(read_net(tried)), tried)
                else:
                    self.no_net(at, tried)
                seen[at] = seen.get(at, 0) + 1
        self.assertGreater(min(seen[at] for at in (None, 0, 1, 2, 3)), 50)


class Plans(Reading):
    def check(self, text, plan):
        kept = list(plan)
        self.assertEqual(plan_text(plan), text)
        self.assertEqual(plan, kept)
        told = read_plan(text)
        self.assertEqual(told, plan)
        self.assertTrue(only_whole(told))
        self.assertTrue(type(told) is list and all(type(triple) is tuple for triple in told))
        self.assertIsNone(bad_plan_piece(text))

    def no_plan(self, at, thing):
        self.refused(read_plan, at, thing)
        self.assertEqual(bad_plan_piece(thing), at, repr(thing))

    def test_the_documents_own(self):
        self.check("0:0:4 2:1:4", [(0, 0, 4), (2, 1, 4)])

    def test_the_least_and_the_greatest(self):
        self.check("-", [])
        self.check("0:0:1", [(0, 0, 1)])
        self.check(f"0:11:{THIRTY} {THIRTY}:0:1", [(0, 11, int(THIRTY)), (int(THIRTY), 0, 1)])
        self.check(f"{HUGE}:0:{HUGE} {HUGE}:11:1", [(HUGE, 0, HUGE), (HUGE, 11, 1)])
        plan = [(0, 0, 1), (0, 1, 1), (0, 11, 1), (1, 0, 1), (9, 0, 1), (10, 0, 1)]
        self.check("0:0:1 0:1:1 0:11:1 1:0:1 9:0:1 10:0:1", plan)

    def test_told_plans(self):
        for net in list(some_nets(60)) + [PLAIN, BACK, GREAT, ODD] + list(NEVER):
            for last in (0, 5, 12):
                plan = always_plan(net, last)
                self.check(plan_text(plan), plan)

    def test_what_is_no_text(self):
        for thing in (None, 0, True, False, [], [(0, 0, 4)], ["-"], ("-",), {}, b"-", object(), (0, 0, 4)):
            self.no_plan(-1, thing)

    def test_pieces(self):
        for piece in (
            "", "0", "0:0", "0:0:", ":0:4", "0::4", "0:0:4:", "0:0:4:4", ":", "::", ":::", "0:0:0", "0:0:00", "0:0:04",
            "00:0:4", "0:00:4", "01:0:4", "0:01:4", "+0:0:4", "0:+0:4", "0:0:+4", "-1:0:4", "0:-1:4", "0:0:-4",
            "0:0:-0", "0:12:4", "0:13:4", "0:" + THIRTY + ":4", THIRTY + "9:0:4", "0:0:" + THIRTY + "9",
            "0:0" + "0" * 30 + ":4",
            "0-0-4", "0:0:4;", "0:0:4,", "0;0;4", "0.0:4", "0:0:4.0", "a:0:4", "0:b:4", "0:0:c", "--", "x", "0:0:4-",
            "-0:0:4", "0:0:4\n", "0:\t0:4", "0:0:\u0664", "\u00b2:0:4", "net",
        ):
            self.no_plan(0, piece)
            self.no_plan(0, piece + " 0:0:4")
            self.no_plan(1, "0:0:4 " + piece)
            self.no_plan(2, "0:0:4 1:0:4 " + piece)
            self.no_plan(1, "0:0:4 " + piece + " 2:0:4")

    def test_blanks_too_many(self):
        self.no_plan(0, " 0:0:4")
        self.no_plan(1, "0:0:4 ")
        self.no_plan(1, "0:0:4  2:1:4")
        self.no_plan(0, " -")
        self.no_plan(1, "- ")
        self.no_plan(0, " ")
        self.no_plan(0, "")
        self.no_plan(0, "0:0: 4")
        self.no_plan(0, "0 :0:4")

    def test_triples_that_do_not_rise(self):
        self.no_plan(1, "0:0:4 0:0:4")
        self.no_plan(1, "0:0:4 0:0:5")
        self.no_plan(1, "0:1:4 0:0:5")
        self.no_plan(1, "2:1:4 0:0:4")
        self.no_plan(1, "1:0:4 0:11:4")
        self.no_plan(2, "0:0:4 2:1:4 2:1:3")
        self.no_plan(2, "0:0:4 2:1:4 1:1:4")
        self.no_plan(2, "0:0:4 2:1:4 2:0:9")
        # by the number, not by the signs
        self.no_plan(1, "10:0:4 9:0:4")
        self.no_plan(1, "0:10:4 0:9:4")
        self.check("9:0:4 10:0:4", [(9, 0, 4), (10, 0, 4)])

    def test_behind_no_triples(self):
        self.no_plan(1, "- 0:0:4")
        self.no_plan(1, "- -")
        self.no_plan(1, "- - 0:0:4")
        self.no_plan(1, "- x")
        self.no_plan(1, "0:0:4 -")
        self.no_plan(1, "0:0:4 - 2:1:4")
        self.no_plan(2, "0:0:4 2:1:4 -")

    def test_long_texts(self):
        self.no_plan(0, "9" * 1100)
        self.no_plan(0, ":" * 1100)
        self.no_plan(0, " " * 1100)
        self.no_plan(1, "- " * 550)
        many = [(hour, way, 1) for hour in range(60) for way in range(12)]
        self.check(" ".join(f"{hour}:{way}:1" for hour, way, loads in many), many)

    def test_spoilt(self):
        chance = random.Random(142)
        seen = {}
        for net in list(some_nets(200)) + [PLAIN, BACK]:
            text = plan_text(always_plan(net, 7))
            for _ in range(8):
                tried = self.spoilt(chance, text)
                at = bad_plan_piece(tried)
                if at is None:
                    self.assertEqual(plan_text(read_plan(tried)), tried)
                else:
                    self.no_plan(at, tried)
                seen[at] = seen.get(at, 0) + 1
        self.assertGreater(min(seen[at] for at in (None, 0, 1, 2, 3)), 20)

    def test_the_told_list_is_the_askers_own(self):
        read_plan("0:0:4 2:1:4").clear()
        read_plan("-").append(1)
        self.assertEqual(read_plan("0:0:4 2:1:4"), [(0, 0, 4), (2, 1, 4)])
        self.assertEqual(read_plan("-"), [])


if __name__ == "__main__":
    unittest.main()
