import random
import unittest

from hourhaul.always import always_right
from hourhaul.bends import bends_of
from hourhaul.closed import most_by
from hourhaul.desk import HaulDesk
from hourhaul.errors import HaulError, NoBack, NoRow, NoText, NoWay, TooMany
from hourhaul.lanes import open_net
from hourhaul.nets import less_way, put_way, turned_net, with_room
from hourhaul.soonest import gain_at, soonest_hour
from hourhaul.starts import most_from, soonest_all
from hourhaul.sums import least_coming
from hourhaul.texts import net_text, read_net, read_plan
from hourhaul.worths import room_loss, room_worth
from samples import BACK, FAR, G, GREAT, HUGE, NEVER, ODD, PLAIN, some_nets

TEXT = "net 3; 0-1 5 2; 1-2 4 1; 0-2 3 7"
MOST_LOADS = 10 ** 18
STORE = 10 ** 12
THIRTY = "9" * 30
# Wrongly written numbers.
NO_NUMBERS = (
    "", "x", "-1", "+1", "01", "00", "1.0", "1_0", "1,0", "-", "1x", "T", "K", "1;", "\u0661", "\u00b2", "1\n", "\t1",
    THIRTY + "9", "1" + "0" * 30, "1" * 1000,
)


def desk_of(net):
    desk = HaulDesk()
    desk.say(net_text(net))
    return desk


class DeskCase(unittest.TestCase):
    def answers(self, desk, *pairs):
        for row, text in pairs:
            told = desk.say(row)
            self.assertIs(type(told), str)
            self.assertEqual(told, text, row)

    def refused(self, error, desk, *rows):
        for row in rows:
            kept = desk.say("tell")
            with self.assertRaises(error, msg=repr(row)) as caught:
                desk.say(row)
            self.assertIs(type(caught.exception), error, repr(row))
            self.assertIsInstance(caught.exception, HaulError)
            self.assertEqual(desk.say("tell"), kept)


class Deeds(DeskCase):
    def test_at_first(self):
        self.answers(HaulDesk(), ("tell", "net 2"), ("bends", "-"), ("most 9", "0"), ("plan 9", "-"))

    def test_each_deed_and_back_in_turn(self):
        desk = HaulDesk()
        nets = ["net 2"]
        for row, after in (
            (TEXT, TEXT),
            ("way 2 1 9 3", TEXT + "; 2-1 9 3"),
            ("less 1", "net 3; 0-1 5 2; 0-2 3 7; 2-1 9 3"),
            ("room 0 1000000000", "net 3; 0-1 1000000000 2; 0-2 3 7; 2-1 9 3"),
            ("room 0 1000000000", "net 3; 0-1 1000000000 2; 0-2 3 7; 2-1 9 3"),
            ("turn", "net 3; 1-2 1000000000 2; 0-2 3 7; 1-0 9 3"),
            ("net 6", "net 6"),
            ("way 0 5 0 1", "net 6; 0-5 0 1"),
            ("turn", "net 6; 0-5 0 1"),
        ):
            self.answers(desk, (row, "ok"), ("tell", after))
            nets.append(after)
        while len(nets) > 1:
            self.answers(desk, ("tell", nets.pop()), ("back", "ok"), ("tell", nets[-1]))
        self.refused(NoBack, desk, "back", "back")
        self.answers(desk, ("tell", "net 2"), ("turn", "ok"), ("back", "ok"))
        self.refused(NoBack, desk, "back")

    def test_the_last_deed_that_is_not_taken_back(self):
        desk = HaulDesk()
        self.answers(desk, ("way 0 1 1 1", "ok"), ("way 0 1 2 2", "ok"), ("back", "ok"), ("way 0 1 3 3", "ok"))
        self.answers(desk, ("tell", "net 2; 0-1 1 1; 0-1 3 3"), ("back", "ok"), ("tell", "net 2; 0-1 1 1"))
        self.answers(desk, ("back", "ok"), ("tell", "net 2"))
        self.refused(NoBack, desk, "back")

    def test_back_is_no_deed_and_questions_are_none(self):
        desk = HaulDesk()
        self.answers(desk, ("way 0 1 1 1", "ok"), ("tell", "net 2; 0-1 1 1"), ("most 3", "3"), ("bends", "1:1"))
        self.answers(desk, ("back", "ok"), ("tell", "net 2"))
        self.refused(NoBack, desk, "back")

    def test_what_is_refused_is_no_deed(self):
        desk = desk_of(PLAIN)
        self.refused(NoRow, desk, "way 0 0 1 1", "room 0 -1", "turn 1", "less", "most", "x", None)
        self.refused(NoWay, desk, "less 3", "room 3 1", "worth 3 1")
        self.refused(NoText, desk, "net 7", "net 3; 0-0 1 1", "net ")
        for _ in range(9):
            self.answers(desk, ("way 0 2 1 1", "ok"))
        self.refused(TooMany, desk, "way 0 2 1 1", "both 1")
        for _ in range(9):
            self.answers(desk, ("back", "ok"))
        self.answers(desk, ("tell", TEXT), ("back", "ok"), ("tell", "net 2"))
        self.refused(NoBack, desk, "back")

    def test_two_desks_at_once(self):
        one, other = HaulDesk(), HaulDesk()
        self.answers(one, (TEXT, "ok"))
        self.answers(other, ("tell", "net 2"), ("way 0 1 7 7", "ok"))
        self.answers(one, ("tell", TEXT), ("turn", "ok"), ("back", "ok"), ("tell", TEXT), ("back", "ok"))
        self.refused(NoBack, one, "back")
        self.answers(other, ("tell", "net 2; 0-1 7 7"), ("back", "ok"))

    def test_as_the_functions_tell(self):
        chance = random.Random(151)
        for net in some_nets(60):
            desk = desk_of(net)
            stack = [(2, ()), net]
            for _ in range(12):
                now = stack[-1]
                start, to = chance.sample(range(now[0]), 2)
                room, hours, number = chance.choice((0, 1, G)), chance.choice((1, 5, 10 ** 6)), chance.randint(0, 12)
                row, after = chance.choice((
                    (f"way {start} {to} {room} {hours}", lambda: put_way(now, (start, to, room, hours))),
                    (f"less {number}", lambda: less_way(now, number)),
                    (f"room {number} {room}", lambda: with_room(now, number, room)),
                    ("turn", lambda: turned_net(now)), ("back", None),
                ))
                if row == "back" and len(stack) == 1:
                    self.refused(NoBack, desk, row)
                elif row == "back":
                    stack.pop()
                    self.answers(desk, (row, "ok"))
                else:
                    try:
                        stack.append(after())
                        self.answers(desk, (row, "ok"))
                    except HaulError as error:
                        self.refused(type(error), desk, row)
                self.answers(desk, ("tell", net_text(stack[-1])))


class Questions(DeskCase):
    def test_told(self):
        self.answers(
            desk_of(PLAIN), ("tell", TEXT), ("most 2", "0"), ("most 3", "4"), ("most 8", "30"), ("gain 6", "4"),
            ("gain 7", "7"), ("bends", "3:4 7:3"), ("soonest 20", "7"), ("coming 5", "16"), ("plan 3", "0:0:4 2:1:4"),
            ("plan 2", "-"), ("from 5 0", "12"), ("from 5 1", "20"), ("from 5 0 1", "20"), ("all 4 9", "4"),
            ("all 0 0", "0"), ("both 8", "30"), ("worth 1 8", "6"), ("loss 1 8", "6"), ("worth 0 8", "0"),
            ("loss 2 8", "2"),
        )

    def test_never(self):
        for net in NEVER:
            self.answers(
                desk_of(net), ("soonest 1", "never"), (f"soonest {MOST_LOADS}", "never"), ("coming 1", "never"),
                ("bends", "-"), ("plan 12", "-"), ("all 1" + " 0" * (net[0] - 2), "never"),
                ("all 0" + " 0" * (net[0] - 2), "0"), (f"most {FAR}", "0"), ("gain 5", "0"),
            )

    def test_as_the_functions_tell_of_the_net_as_it_is(self):
        desk = HaulDesk()
        for net in list(some_nets(60)) + [PLAIN, BACK, GREAT, ODD]:
            desk.say(net_text(net))
            self.answers(desk, ("bends", " ".join(f"{length}:{loads}" for length, loads in bends_of(net)) or "-"))
            for last in (0, 4, 12, 10 ** 7, FAR):
                self.answers(desk, (f"most {last}", str(most_by(net, last))), (f"gain {last}", str(gain_at(net, last))))
                for starts in ((0,), tuple(range(net[0] - 1)), (net[0] - 2,)):
                    row = f"from {last} " + " ".join(map(str, starts))
                    self.answers(desk, (row, str(most_from(net, starts, last))))
                if len(net[1]) <= 6:
                    self.answers(desk, (f"both {last}", str(most_by(open_net(net), last))))
                for number in range(len(net[1])):
                    self.answers(desk, (f"worth {number} {last}", str(room_worth(net, last, number))))
                    self.answers(desk, (f"loss {number} {last}", str(room_loss(net, last, number))))
            for loads in (1, 9, MOST_LOADS):
                told = soonest_hour(net, loads)
                hour, least = (str(told[1]), str(least_coming(net, loads))) if told[0] == "by" else ("never", "never")
                self.answers(desk, (f"soonest {loads}", hour), (f"coming {loads}", least))
            for store in (0, 1, 9, STORE):
                for stores in ((store,) * (net[0] - 1), (store,) + (0,) * (net[0] - 2)):
                    hour = soonest_all(net, stores + (0,))
                    row = "all " + " ".join(map(str, stores))
                    self.answers(desk, (row, "never" if hour is None else str(hour)))

    def test_a_plan_that_is_read_and_always_best(self):
        for net in list(some_nets(60)) + [PLAIN, BACK, GREAT, ODD] + list(NEVER):
            desk = desk_of(net)
            for last in (0, 3, 7, 12):
                self.assertIs(always_right(net, last, read_plan(desk.say(f"plan {last}"))), True)
            self.assertEqual(read_net(desk.say("tell")), net)

    def test_after_each_deed(self):
        desk = desk_of(PLAIN)
        self.answers(desk, ("most 8", "30"), ("room 1 5", "ok"), ("most 8", "36"), ("less 2", "ok"), ("most 8", "30"))
        self.answers(desk, ("turn", "ok"), ("most 8", "30"), ("way 0 2 9 8", "ok"), ("most 8", "39"), ("back", "ok"))
        self.answers(desk, ("back", "ok"), ("most 8", "30"), ("back", "ok"), ("most 8", "36"), ("back", "ok"))
        self.answers(desk, ("most 8", "30"), ("bends", "3:4 7:3"))


class Bounds(DeskCase):
    def within(self, desk, least, most, form):
        """The least and the greatest number are let, one beyond each isn't."""
        for number in (least, min(least + 1, most), max(least, most - 1), most):
            self.assertIs(type(desk.say(form.replace("#", str(number)))), str)
        self.refused(NoRow, desk, *(form.replace("#", str(number)) for number in (least - 1, most + 1, HUGE, THIRTY)))
        self.refused(NoRow, desk, *(form.replace("#", word) for word in NO_NUMBERS))

    def test_hours(self):
        for form in ("most #", "gain #", "from # 0", "from # 0 1", "both #", "worth 0 #", "loss 0 #"):
            self.within(desk_of(PLAIN), 0, FAR, form)
        self.within(desk_of(PLAIN), 0, 12, "plan #")

    def test_loads_and_stores(self):
        for form in ("soonest #", "coming #"):
            self.within(desk_of(PLAIN), 1, MOST_LOADS, form)
        for form in ("all # 0", "all 0 #"):
            self.within(desk_of(PLAIN), 0, STORE, form)

    def test_rooms_ways_and_places(self):
        self.within(desk_of(PLAIN), 0, G, "room 0 #")
        self.within(desk_of(PLAIN), 0, G, "way 0 1 # 1")
        self.within(desk_of(PLAIN), 1, 10 ** 6, "way 0 1 1 #")
        self.within(desk_of(PLAIN), 0, 1, "way # 2 1 1")
        self.within(desk_of(PLAIN), 1, 2, "way 0 # 1 1")
        self.within(desk_of(PLAIN), 0, 1, "from 5 #")
        self.within(desk_of(BACK), 1, 2, "from 5 0 #")
        self.within(desk_of(BACK), 2, 2, "from 5 0 1 #")

    def test_numbers_of_ways(self):
        desk = desk_of(PLAIN)
        for form in ("less #", "room # 5", "worth # 5", "loss # 5"):
            self.refused(NoWay, desk, *(form.replace("#", str(number)) for number in (3, 4, 11, 12, HUGE, THIRTY)))
            self.refused(NoRow, desk, *(form.replace("#", word) for word in NO_NUMBERS))
        # what is no row goes ahead of a number that no way has
        self.refused(NoRow, desk, "room 3 1000000001", "room 3 x", f"worth 3 {FAR + 1}", "loss 3 -1", "less 3 3")
        self.refused(NoRow, desk, "room 3", "less", "worth 3")
        self.refused(NoWay, HaulDesk(), "less 0", "room 0 0", "worth 0 0", "loss 0 0")

    def test_too_many_ways(self):
        desk = desk_of((2, ((0, 1, 1, 1),) * 6))
        self.answers(desk, ("both 5", str(6 * 5)), ("way 0 1 1 1", "ok"))
        self.refused(TooMany, desk, "both 5", "both 0", f"both {FAR}")
        self.refused(NoRow, desk, f"both {FAR + 1}", "both", "both 5 5", "both x")
        for _ in range(5):
            self.answers(desk, ("way 1 0 1 1", "ok"))
        self.refused(TooMany, desk, "way 0 1 1 1", "way 1 0 0 1000000")
        self.refused(NoRow, desk, "way 0 0 1 1", "way 0 2 1 1", "way 0 1 1", "way 0 1 1 0")
        self.answers(desk, ("less 11", "ok"), ("way 0 1 1 1", "ok"))


class NoRows(DeskCase):
    ROWS = (
        "way 0 1 5 2", "less 0", "room 0 5", "turn", "back", "tell", "most 5", "gain 5", "bends", "soonest 5",
        "coming 5", "plan 5", "from 5 0", "from 5 0 1", "all 5 5", "both 5", "worth 0 5", "loss 0 5",
    )

    def test_the_rows_themselves(self):
        for row in self.ROWS:
            self.assertIs(type(desk_of(PLAIN).say(row)), str)

    def test_words_too_few_and_too_many(self):
        desk = desk_of(PLAIN)
        for row in self.ROWS:
            words = row.split(" ")
            if row != "from 5 0 1":
                self.refused(NoRow, desk, *(" ".join(words[:count]) for count in range(1, len(words))))
            self.refused(NoRow, desk, *(row + more for more in (" 0", " 5", " x", " 0 0", " -")))
        self.refused(NoRow, desk, "from 5 0 1 2", "all 5", "all 5 5 5", "all", "from", "from 5")

    def test_blanks(self):
        desk = desk_of(PLAIN)
        for row in self.ROWS:
            self.refused(NoRow, desk, " " + row, row + " ", row.replace(" ", "  ", 1) + " ", row + "  ", "  " + row)
            if " " in row:
                self.refused(NoRow, desk, row.replace(" ", "  ", 1), row.replace(" ", "\t"), row.replace(" ", ""))
                self.refused(NoRow, desk, row.replace(" ", "; "), row.replace(" ", ","), row + "\n")

    def test_other_words(self):
        desk = desk_of(PLAIN)
        self.refused(
            NoRow, desk, "", " ", "x", "net", "nets 2", "Net 2", "NET 2", "net\t2", "net2", "0-1 5 2", "-", "Tell",
            "TELL", "told", "most", "Most 5", "mosts 5", "worst 0 5", "5", "0:0:4", "ways 0 1 5 2", "tell me", "backs",
            "undo", "least 5", "never", "ok", "  ", " net 2", "x" * 1100, " " * 1100, "; ", "plan", "always 5", "None",
            "True 5",
        )
        for row in self.ROWS:
            word, blank, rest = row.partition(" ")
            for other in (word.upper(), word + "s", word[:-1], word[1:], word.capitalize(), "'" + word):
                self.refused(NoRow, desk, other + blank + rest)

    def test_what_is_no_text(self):
        self.refused(
            NoRow, desk_of(PLAIN), None, 0, 5, True, False, [], ["tell"], ("tell",), {}, {"tell": 1}, b"tell", b"net 2",
            object(), (2, ()), ["net 2"],
        )

    def test_places(self):
        desk = desk_of(BACK)
        self.refused(
            NoRow, desk, "way 0 0 1 1", "way 3 3 1 1", "way 4 0 1 1", "way 0 4 1 1", "way 4 5 1 1", "from 5 3",
            "from 5 0 3", "from 5 4", "from 5 0 0", "from 5 1 0", "from 5 0 2 1", "from 5 0 1 1", "from 5 0 1 2 3",
            "from 5 1 1 2",
        )
        self.answers(desk, ("from 5 0 1 2", str(most_from(BACK, (0, 1, 2), 5))), ("way 3 0 1 1", "ok"))
        # by the net as it is by then
        self.answers(desk, ("net 2", "ok"), ("all 7", "never"), ("from 5 0", "0"))
        self.refused(NoRow, desk, "way 0 2 1 1", "from 5 1", "from 5 0 1", "all 7 7", "all 0 0 0")
        self.answers(desk, ("back", "ok"), ("all 0 0 0", "0"))

    def test_back_with_more_words_is_no_row_though_no_deed_stands(self):
        self.refused(NoRow, HaulDesk(), "back 1", "back ", "back back")
        self.refused(NoBack, HaulDesk(), "back")


class NoTexts(DeskCase):
    def test_a_row_whose_first_four_signs_are_net_and_a_blank(self):
        desk = desk_of(PLAIN)
        for row, at in (
            ("net ", 0), ("net  2", 0), ("net 2 ", 0), ("net 7", 0), ("net x", 0), ("net 2;0-1 5 2", 0),
            ("net tell", 0), ("net 3; 0-3 5 2", 1), ("net 3; 0-1 5 2; 1-1 4 1", 2), ("net 3; ", 1),
            ("net 3; 0-1 5 0", 1),
            ("net 2" + "; 0-1 1 1" * 13, 13), ("net 3; 0-1 5 2; x", 2), ("net 3; 0-1 1000000001 2", 1),
        ):
            with self.assertRaises(NoText) as caught:
                desk.say(row)
            self.assertEqual(caught.exception.at, at, row)
            self.refused(NoText, desk, row)
        self.answers(desk, ("back", "ok"), ("tell", "net 2"))

    def test_net_texts_are_kept(self):
        desk = HaulDesk()
        for net in list(some_nets(40)) + [PLAIN, BACK, GREAT, ODD]:
            self.answers(desk, (net_text(net), "ok"), ("tell", net_text(net)))


if __name__ == "__main__":
    unittest.main()
