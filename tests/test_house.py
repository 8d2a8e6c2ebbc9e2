import copy
import inspect
import itertools
import random
import unittest

from ballotin.chain import chance
from ballotin.errors import (
    BadCount, BadName, BadRound, BallotError, Full, NoHead, NoLeague, NoPerson, NoRow, NoSitting, NotDue, NothingLeft,
    NotWhole, Taken,
)
from ballotin.house import House
from helper import LOT_1, Checks, do, done_again, house_of, roll_of, seen, some_deed, some_life, some_row, stands

ARGUMENTS = {
    "enroll": "name clan", "strike": "name", "move": "name clan", "league": "name clans", "dissolve": "name",
    "lay": "name row", "drop": "name", "begin": "name row league", "draw": "name person", "poll": "name",
    "shut": "name", "undo": "", "redo": "", "twin": "", "deeds": "", "people": "", "leagues": "", "rows": "",
    "sittings": "", "clans_of": "name", "friends": "name", "row": "name", "outlook": "row league",
    "swing": "row league clan", "due": "name", "bench": "name", "waiting": "name", "drawn": "name",
    "chance": "name", "head": "name", "story": "name",
}
BAD_NAMES = ("", "a" * 9, "a" * 5000, "Anna", "annA", "a1", "a b", " a", "a ", "a\n", "\n", "a_b", "a-b", "`", "{",
             "@", "a`", "a{", "~", " ")
# Each deed once, as it can be done to the small house.
EACH = (
    ("enroll", "eva", "red"), ("strike", "abel"), ("move", "dora", "blue"), ("league", "ours", ("blue",)),
    ("dissolve", "ours"), ("lay", "way", (LOT_1,)), ("drop", "long"), ("begin", "u", "way", "none"),
    ("draw", "t", "dora"), ("poll", "s"), ("shut", "s"),
)
GOOD_NAMES = ("a", "z", "abcdefgh", "zzzzzzzz", "lot", "vote", "roll", "row")


class HouseChecks(Checks):
    def assert_refuses(self, wanted, house, deed):
        """The deed is refused by just this class, and changes nothing; tells the error."""
        before = seen(house)
        given = [list(thing) if isinstance(thing, tuple) else thing for thing in deed[1:]]
        kept = copy.deepcopy(given)
        found = self.assert_refused(wanted, getattr(house, deed[0]), *given)
        self.assertEqual(seen(house), before)
        self.assertEqual(given, kept)
        return found

    def assert_counts(self, house, *deed):
        """The deed is done, tells None, and counts as handed in."""
        before = house.deeds()
        self.assertIsNone(do(house, deed))
        self.assertEqual(house.deeds(), before + [deed])
        self.assertEqual(done_again(house.twin()), [])

    def small_house(self):
        """Some people, leagues, rows and sittings, one deed taken back."""
        house = House()
        for name, clan in (("dora", "red"), ("abel", "blue"), ("cora", "red"), ("bert", "gray")):
            house.enroll(name, clan)
        house.league("ours", ["red"])
        house.league("none", [])
        house.lay("way", [("lot", 3), ("vote", 1, 2, "council")])
        house.lay("long", [("lot", 5), LOT_1])
        house.lay("short", [("lot", 2)])
        house.begin("s", "way", "ours")
        house.draw("s", "dora")
        house.draw("s", "abel")
        house.draw("s", "bert")
        house.begin("t", "way", "none")
        house.strike("bert")
        house.undo()
        return house


class Form(HouseChecks):
    def test_methods_and_arguments(self):
        self.assertEqual(list(inspect.signature(House).parameters), [])
        for name, wanted in ARGUMENTS.items():
            found = list(inspect.signature(getattr(House(), name)).parameters)
            self.assertEqual(found, wanted.split(), name)

    def test_nobody_and_nothing_at_first(self):
        house = House()
        self.assertEqual(stands(house), {"people": [], "leagues": [], "rows": [], "sittings": [], "deeds": []})
        self.assert_refused(NothingLeft, house.undo)
        self.assert_refused(NothingLeft, house.redo)
        house.enroll("anna", "a")
        self.assertEqual(House().people(), [])


class Names(HouseChecks):
    def test_bad_names(self):
        house = self.small_house()
        for bad in BAD_NAMES:
            for deed in (("enroll", bad, "red"), ("enroll", "eva", bad), ("enroll", bad, bad), ("move", "dora", bad),
                         ("league", bad, ()), ("league", bad, ("red",)), ("league", "new", (bad,)),
                         ("league", "new", ("red", "blue", bad)), ("league", "ours", (bad, "red")), ("lay", bad, ()),
                         ("lay", bad, (LOT_1,)), ("begin", bad, "way", "ours")):
                self.assert_refuses(BadName, house, deed)

    def test_good_names(self):
        for good in GOOD_NAMES:
            house = House()
            self.assert_counts(house, "enroll", good, good)
            self.assert_counts(house, "move", good, good)
            self.assert_counts(house, "league", good, (good,))
            self.assert_counts(house, "lay", good, (LOT_1,))
            self.assert_counts(house, "begin", good, good, good)
            self.assertEqual((house.people(), house.friends(good)), ([(good, good)], [good]))
            self.assertEqual((house.leagues(), house.rows(), house.sittings()), ([good], [good], [good]))
            # Each kind has its names for itself, so what is taken away of one leaves the others.
            self.assert_counts(house, "dissolve", good)
            self.assertEqual((house.leagues(), house.rows(), house.sittings()), ([], [good], [good]))
            self.assert_counts(house, "shut", good)
            self.assert_counts(house, "strike", good)
            self.assertEqual((house.people(), house.rows(), house.sittings()), ([], [good], []))

    def test_names_that_none_has(self):
        house = self.small_house()
        for name in BAD_NAMES + ("eva", "red", "roll", "league"):
            for wanted, deeds in ((NoPerson, ("strike", "move")), (NoLeague, ("dissolve", "clans_of", "friends")),
                                  (NoRow, ("drop", "row")), (NoSitting, ("poll", "shut"))):
                for deed in deeds:
                    self.assert_refuses(wanted, house, (deed, name) + (("red",) if deed == "move" else ()))
            self.assert_refuses(NoPerson, house, ("draw", "t", name))
            self.assert_refuses(NoSitting, house, ("draw", name, "dora"))
            self.assert_refuses(NoRow, house, ("begin", "new", name, "ours"))
            self.assert_refuses(NoLeague, house, ("begin", "new", "way", name))


class People(HouseChecks):
    def test_order_in_which_they_joined(self):
        house = House()
        for name, clan in (("dora", "red"), ("abel", "blue"), ("cora", "red")):
            self.assert_counts(house, "enroll", name, clan)
        self.assertEqual(house.people(), [("dora", "red"), ("abel", "blue"), ("cora", "red")])
        self.assert_counts(house, "move", "abel", "gray")
        self.assertEqual(house.people(), [("dora", "red"), ("abel", "gray"), ("cora", "red")])
        self.assert_counts(house, "strike", "dora")
        self.assertEqual(house.people(), [("abel", "gray"), ("cora", "red")])
        self.assert_counts(house, "enroll", "dora", "blue")
        self.assertEqual(house.people(), [("abel", "gray"), ("cora", "red"), ("dora", "blue")])
        self.assert_counts(house, "strike", "cora")
        self.assertEqual(house.people(), [("abel", "gray"), ("dora", "blue")])
        self.assert_counts(house, "move", "abel", "gray")
        self.assertEqual([type(one) for one in house.people()], [tuple, tuple])

    def test_taken(self):
        house = self.small_house()
        for name, clan in itertools.product(("dora", "bert"), ("red", "new")):
            self.assert_refuses(Taken, house, ("enroll", name, clan))
        self.assert_refuses(BadName, house, ("enroll", "dora", "Red"))
        self.assert_refuses(NoPerson, house, ("move", "eva", "Red"))

    def test_at_most_60(self):
        house, names = House(), roll_of(61)
        for name in names[:60]:
            self.assert_counts(house, "enroll", name, "red")
        self.assertEqual(len(house.people()), 60)
        self.assert_refuses(Full, house, ("enroll", names[60], "red"))
        self.assert_refuses(Taken, house, ("enroll", names[59], "red"))
        self.assert_refuses(BadName, house, ("enroll", names[60], "Red"))
        self.assert_refuses(BadName, house, ("enroll", "", "red"))
        self.assert_counts(house, "strike", names[0])
        self.assert_counts(house, "enroll", names[60], "red")
        self.assertEqual([name for name, clan in house.people()], names[1:])


class Leagues(HouseChecks):
    def test_clans_and_friends(self):
        house = self.small_house()
        self.assert_counts(house, "league", "ours", ("red", "gray", "red", "far", "gray"))
        self.assertEqual(house.clans_of("ours"), ["far", "gray", "red"])
        self.assertEqual(house.friends("ours"), ["dora", "cora", "bert"])
        self.assert_counts(house, "league", "ours", ("blue",))
        self.assertEqual((house.clans_of("ours"), house.friends("ours")), (["blue"], ["abel"]))
        self.assertEqual((house.clans_of("none"), house.friends("none")), ([], []))
        house.move("cora", "blue")
        self.assertEqual(house.friends("ours"), ["abel", "cora"])
        house.strike("abel")
        house.enroll("abel", "blue")
        self.assertEqual(house.friends("ours"), ["cora", "abel"])

    def test_names_rising(self):
        house = House()
        for name in ("b", "ab", "z", "a", "ba"):
            self.assert_counts(house, "league", name, ("red",))
            self.assert_counts(house, "lay", name, (LOT_1,))
        self.assertEqual(house.leagues(), ["a", "ab", "b", "ba", "z"])
        self.assertEqual(house.rows(), ["a", "ab", "b", "ba", "z"])
        self.assert_counts(house, "dissolve", "b")
        self.assert_counts(house, "drop", "a")
        self.assertEqual(house.leagues(), ["a", "ab", "ba", "z"])
        self.assertEqual(house.rows(), ["ab", "b", "ba", "z"])
        for refused in (NoLeague, NoRow):
            self.assert_refuses(refused, house, ("dissolve", "b") if refused is NoLeague else ("drop", "a"))
        house.enroll("anna", "a")
        for name in ("t", "s", "r"):
            self.assert_counts(house, "begin", name, "z", "z")
        self.assertEqual(house.sittings(), ["r", "s", "t"])


class Rows(HouseChecks):
    def test_laid_anew(self):
        house = self.small_house()
        self.assertEqual(house.row("way"), [("lot", 3), ("vote", 1, 2, "council")])
        self.assert_counts(house, "lay", "way", ())
        self.assertEqual(house.row("way"), [])
        self.assert_counts(house, "lay", "way", (("vote", 2, 3, "stay"), ("lot", 60)))
        self.assertEqual(house.row("way"), [("vote", 2, 3, "stay"), ("lot", 60)])
        self.assertEqual(house.deeds()[-1], ("lay", "way", (("vote", 2, 3, "stay"), ("lot", 60))))
        self.assertEqual(house.row("short"), [("lot", 2)])

    def test_rounds_that_may_be_laid(self):
        steps = [("lot", 1), ("lot", 60)]
        for seats, needed, word in itertools.product((1, 60), (1, 2, 499, 500), ("council", "bench", "stay")):
            steps.append(("vote", seats, needed, word))
        for step in steps:
            self.assert_counts(House(), "lay", "way", (step,))
            # Whether a row fits together is not asked here.
            self.assert_counts(House(), "lay", "way", (LOT_1, step, ("lot", 60)))

    def test_rounds_that_fit_nowhere(self):
        house = self.small_house()
        huge = 10 ** 9000
        wrong = [("lot", seats) for seats in (-huge, -1, 0, 61, huge)]
        wrong += [("vote", seats, 1, "council") for seats in (-huge, -1, 0, 61, huge)]
        wrong += [("vote", 1, needed, word) for needed in (-huge, -1, 0, 501, huge) for word in ("council", "stay")]
        wrong += [("vote", 1, 1, word) for word in ("", "Council", "councils", "lot", "bench ", "hung")]
        wrong += [(word, 1) for word in ("", "Lot", "lots", "coin", "lot ", "council")]
        wrong += [(word, 1, 1, "council") for word in ("", "Vote", "votes", "coin", "council")]
        for step in wrong:
            for at, row in ((0, (step,)), (1, (LOT_1, step)), (1, (LOT_1, step, ("lot", 0))),
                            (19, (LOT_1,) * 19 + (step,))):
                found = self.assert_refuses(BadRound, house, ("lay", "new", row))
                self.assertEqual(found.at, at)
                self.assertIs(type(found.at), int)

    def test_at_most_20_rounds(self):
        house = self.small_house()
        self.assert_counts(house, "lay", "way", (LOT_1,) * 20)
        for many in (21, 22, 500):
            self.assert_refuses(Full, house, ("lay", "way", (LOT_1,) * many))

    def test_two_at_once(self):
        house = self.small_house()
        self.assert_refuses(BadName, house, ("lay", "Way", (LOT_1,) * 21))
        self.assert_refuses(BadName, house, ("lay", "Way", (("lot", 0),)))
        self.assert_refuses(Full, house, ("lay", "way", (("lot", 0),) * 21))
        self.assert_refuses(Full, house, ("lay", "way", (LOT_1,) * 20 + (("coin", 0),)))


class Beginning(HouseChecks):
    def test_begun(self):
        house = self.small_house()
        self.assert_counts(house, "begin", "new", "way", "ours")
        self.assertEqual(house.sittings(), ["new", "s", "t"])
        self.assertEqual(house.bench("new"), ["dora", "abel", "cora", "bert"])

    def test_refusals(self):
        house = self.small_house()
        self.assert_refuses(Taken, house, ("begin", "s", "way", "ours"))
        self.assert_refuses(NoRow, house, ("begin", "new", "far", "ours"))
        self.assert_refuses(NoLeague, house, ("begin", "new", "way", "far"))
        self.assertEqual(self.assert_refuses(BadRound, house, ("begin", "new", "long", "ours")).at, 0)
        self.assert_refuses(NotWhole, house, ("begin", "new", "short", "ours"))
        house.lay("way", [("lot", 3), ("vote", 2, 3, "stay")])
        self.assertEqual(self.assert_refuses(BadRound, house, ("begin", "new", "way", "ours")).at, 1)
        house.lay("way", [])
        self.assert_refuses(NotWhole, house, ("begin", "new", "way", "ours"))

    def test_two_at_once(self):
        house = self.small_house()
        for row, league in itertools.product(("far", "way", "long", "short"), ("far", "ours")):
            self.assert_refuses(BadName, house, ("begin", "New", row, league))
            self.assert_refuses(Taken, house, ("begin", "s", row, league))
        self.assert_refuses(NoRow, house, ("begin", "new", "far", "far"))
        for row in ("way", "long", "short"):
            self.assert_refuses(NoLeague, house, ("begin", "new", row, "far"))
        house.lay("both", [("lot", 5), ("lot", 2)])
        self.assertEqual(self.assert_refuses(BadRound, house, ("begin", "new", "both", "ours")).at, 0)
        house.lay("both", [("lot", 3), ("vote", 2, 4, "bench")])
        self.assertEqual(self.assert_refuses(BadRound, house, ("begin", "new", "both", "ours")).at, 1)

    def test_nobody_on_the_roll(self):
        house = self.small_house()
        house.lay("empty", [])
        for name in ("dora", "abel", "cora", "bert"):
            house.strike(name)
        for row in ("way", "long", "short", "empty"):
            self.assert_refuses(BadCount, house, ("begin", "new", row, "ours"))
            self.assert_refuses(BadCount, house, ("outlook", row, "ours"))
            self.assert_refuses(BadCount, house, ("swing", row, "ours", "red"))
            self.assert_refuses(NoLeague, house, ("begin", "new", row, "far"))
            self.assert_refuses(NoLeague, house, ("outlook", row, "far"))
            self.assert_refuses(Taken, house, ("begin", "s", row, "ours"))
        self.assert_refuses(NoRow, house, ("begin", "new", "far", "ours"))
        self.assert_refuses(NoRow, house, ("swing", "far", "far", "red"))
        self.assert_refuses(BadName, house, ("begin", "", "way", "ours"))

    def test_the_council_as_it_is(self):
        house = self.small_house()
        house.enroll("eva", "red")
        self.assert_counts(house, "begin", "new", "long", "ours")
        house.strike("dora")
        house.strike("abel")
        house.strike("cora")
        self.assertEqual(self.assert_refuses(BadRound, house, ("begin", "late", "way", "ours")).at, 0)

    def test_balls_and_polls(self):
        house = self.small_house()
        self.assert_refuses(NotDue, house, ("draw", "s", "dora"))
        self.assert_refuses(NotDue, house, ("draw", "s", "nobody"))
        self.assert_refuses(NotDue, house, ("poll", "t"))
        self.assert_refuses(NoHead, house, ("head", "s"))
        self.assert_counts(house, "poll", "s")
        self.assert_counts(house, "draw", "t", "bert")
        self.assert_refuses(NoPerson, house, ("draw", "t", "bert"))
        self.assertEqual((house.due("s"), house.head("s")), ("done", "abel"))
        for deed in (("draw", "s", "abel"), ("draw", "s", "nobody"), ("poll", "s")):
            self.assert_refuses(NotDue, house, deed)
        self.assert_counts(house, "shut", "s")
        for deed in (("draw", "s", "abel"), ("poll", "s"), ("shut", "s"), ("head", "s")):
            self.assert_refuses(NoSitting, house, deed)
        self.assert_counts(house, "begin", "s", "way", "ours")
        self.assertEqual((house.due("s"), house.story("s")), ("draw", []))


class Outlook(HouseChecks):
    def test_some_houses(self):
        source = random.Random(77)
        for count in (1, 2, 5, 17, 59, 60):
            house, names = House(), roll_of(count)
            for name in names:
                house.enroll(name, source.choice(["red", "blue", "gray"]))
            house.league("ours", ["red", "blue", "red"])
            house.league("none", [])
            clans = [clan for name, clan in house.people()]
            for rounds in (1, 3, 6, 20):
                row = some_row(source, count, rounds)
                house.lay("way", row)

                def with_clans(*wanted):
                    return chance(count, len([clan for clan in clans if clan in wanted]), row)

                before = seen(house)
                self.assertEqual(house.outlook("way", "ours"), with_clans("red", "blue"))
                self.assertEqual(house.outlook("way", "none"), with_clans())
                for league, clan, without, both in (
                    ("ours", "red", with_clans("blue"), with_clans("red", "blue")),
                    ("ours", "gray", with_clans("red", "blue"), with_clans("red", "blue", "gray")),
                    ("ours", "far", with_clans("red", "blue"), with_clans("red", "blue")),
                    ("ours", "", with_clans("red", "blue"), with_clans("red", "blue")),
                    ("none", "gray", with_clans(), with_clans("gray")),
                ):
                    self.assertEqual(house.swing("way", league, clan), (without, both))
                self.assertEqual(seen(house), before)

    def test_by_hand(self):
        house = self.small_house()
        house.lay("draw", [LOT_1])
        self.assertEqual(house.outlook("draw", "ours"), (1, 2))
        self.assertEqual(house.swing("draw", "ours", "red"), ((0, 1), (1, 2)))
        self.assertEqual(house.swing("draw", "ours", "gray"), ((1, 2), (3, 4)))
        self.assertIs(type(house.swing("draw", "ours", "gray")), tuple)
        house.strike("abel")
        self.assertEqual(house.outlook("draw", "ours"), (2, 3))
        house.move("dora", "gray")
        self.assertEqual(house.outlook("draw", "ours"), (1, 3))

    def test_refusals(self):
        house = self.small_house()
        house.lay("both", [("lot", 3), ("lot", 4), ("lot", 2)])
        for more in ((), ("red",), ("Red",)):
            call = ("swing",) if more else ("outlook",)
            for wanted, row, league in (
                (NoRow, "far", "ours"), (NoRow, "far", "far"), (NoLeague, "way", "far"), (NoLeague, "long", "far"),
                (NoLeague, "short", "far"), (BadRound, "long", "ours"), (NotWhole, "short", "ours"),
                (BadRound, "both", "ours"),
            ):
                found = self.assert_refuses(wanted, house, call + (row, league) + more)
                if wanted is BadRound:
                    self.assertEqual(found.at, 1 if row == "both" else 0)


class Back(HouseChecks):
    def test_each_deed_taken_back_and_done_again(self):
        house = self.small_house()
        house.redo()
        for deed in EACH + (("league", "new", ("red", "red")), ("lay", "new", ()), ("move", "dora", "red")):
            before = stands(house)
            do(house, deed)
            behind = stands(house)
            self.assertEqual(house.undo(), deed)
            self.assertEqual(stands(house), before)
            self.assertEqual(house.redo(), deed)
            self.assertEqual(stands(house), behind)
            house.undo()
            if deed[0] == "strike":
                self.assertEqual([name for name, clan in house.people()], ["dora", "abel", "cora"])

    def test_another_deed_ends_what_is_to_do_again(self):
        house = self.small_house()
        self.assertEqual(done_again(house.twin()), [("strike", "bert")])
        self.assert_refuses(NoPerson, house, ("strike", "eva"))
        self.assertEqual(done_again(house.twin()), [("strike", "bert")])
        house.undo()
        self.assertEqual(done_again(house.twin()), [("begin", "t", "way", "none"), ("strike", "bert")])
        house.redo()
        self.assertEqual(done_again(house.twin()), [("strike", "bert")])
        house.move("bert", "gray")
        self.assert_refused(NothingLeft, house.redo)
        self.assertEqual(house.undo(), ("move", "bert", "gray"))
        self.assertEqual(done_again(house.twin()), [("move", "bert", "gray")])

    def test_nothing_left_changes_nothing(self):
        house = self.small_house()
        before = stands(house)
        house.redo()
        with self.assertRaises(NothingLeft):
            house.redo()
        self.assertEqual(house.undo(), ("strike", "bert"))
        self.assertEqual(stands(house), before)
        taken = []
        while house.deeds():
            taken.append(house.undo())
        nothing = stands(house)
        self.assert_refused(NothingLeft, house.undo)
        self.assertEqual(stands(house), nothing)
        self.assertEqual(stands(house), stands(House()))
        self.assertEqual(done_again(house), taken[::-1] + [("strike", "bert")])


class Lives(HouseChecks):
    def test_taken_back_to_nothing_and_done_again_to_the_end(self):
        for seed in range(12):
            house, stood = some_life(seed, 400)
            deeds = house.deeds()
            self.assertEqual({deed[0] for deed in deeds}, {name for name in list(ARGUMENTS)[:11]})
            for at in range(len(deeds), 0, -1):
                self.assertEqual(house.undo(), deeds[at - 1])
                self.assertEqual(stands(house), stood[at - 1])
            self.assert_refused(NothingLeft, house.undo)
            for at, deed in enumerate(deeds):
                self.assertEqual(house.redo(), deed)
                self.assertEqual(stands(house), stood[at + 1])
            self.assert_refused(NothingLeft, house.redo)

    def test_done_anew(self):
        for seed in range(12):
            house, stood = some_life(seed, 400)
            other = House()
            for at, deed in enumerate(house.deeds()):
                self.assertIsNone(do(other, deed))
                self.assertEqual(stands(other), stood[at + 1])

    def test_to_and_fro(self):
        for seed in range(4):
            source = random.Random(seed)
            house, stood = some_life(seed, 60)
            again = []
            for _ in range(300):
                what = source.choice(["undo", "undo", "redo", "deed"])
                if what == "undo" and len(stood) > 1:
                    self.assertEqual(house.undo(), stood[-1]["deeds"][-1])
                    again.append(stood.pop())
                elif what == "redo" and again:
                    stood.append(again.pop())
                    self.assertEqual(house.redo(), stood[-1]["deeds"][-1])
                elif what == "deed":
                    try:
                        do(house, some_deed(source, house))
                    except BallotError:
                        continue
                    stood.append(stands(house))
                    again = []
                self.assertEqual(stands(house), stood[-1])
                self.assertEqual(len(done_again(house.twin())), len(again))


class Twins(HouseChecks):
    def test_a_twin_stands_as_its_house(self):
        for seed in range(3):
            house, stood = some_life(seed, 120)
            for _ in range(7):
                house.undo()
            twin = house.twin()
            self.assertIs(type(twin), House)
            self.assertIsNot(twin, house)
            self.assertEqual(seen(twin), seen(house))
            self.assertEqual(done_again(twin), [stood[-1]["deeds"][at] for at in range(-7, 0)])
            self.assertEqual(stands(twin), stood[-1])
            while twin.deeds():
                twin.undo()
                self.assertEqual(stands(twin), stood[len(twin.deeds())])

    def test_each_goes_its_own_way(self):
        for deed in EACH + (("undo",), ("redo",)):
            house = self.small_house()
            twin = house.twin()
            before = seen(house)
            do(twin, deed)
            self.assertEqual(seen(house), before)
            self.assertNotEqual(seen(twin), before)
            other = house.twin()
            do(house, deed)
            self.assertEqual(seen(other), before)
            self.assertEqual(seen(house), seen(twin))

    def test_a_twin_of_a_twin(self):
        house = self.small_house()
        first = house.twin()
        second = first.twin()
        second.shut("s")
        first.undo()
        self.assertEqual([len(one.sittings()) for one in (house, first, second)], [2, 1, 1])
        self.assertEqual([one.sittings() for one in (first, second)], [["s"], ["t"]])


class Kept(HouseChecks):
    def test_lists_that_were_handed_in_and_are_changed_afterwards(self):
        house = house_of(["anna", "bert"], ["anna"], [LOT_1])
        clans, row = ["good", "far"], [("lot", 2), LOT_1]
        house.league("ours", clans)
        house.lay("way", row)
        house.begin("s", "way", "ours")
        before = seen(house)
        clans.append("ill")
        clans[0] = "ill"
        row.clear()
        self.assertEqual(seen(house), before)
        self.assertEqual(house.clans_of("ours"), ["far", "good"])
        house.undo()
        house.undo()
        house.undo()
        done_again(house)
        self.assertEqual(seen(house), before)

    def test_what_is_handed_in_is_not_changed(self):
        house, clans, row = House(), ["red", "blue", "red"], [("lot", 2), LOT_1]
        house.league("ours", clans)
        house.lay("way", row)
        self.assertEqual((clans, row), (["red", "blue", "red"], [("lot", 2), LOT_1]))

    def test_told_lists_are_new(self):
        house = self.small_house()
        before = seen(house)
        for call, *given in (("people",), ("leagues",), ("rows",), ("sittings",), ("deeds",), ("clans_of", "ours"),
                             ("friends", "ours"), ("row", "way")):
            found = getattr(house, call)(*given)
            self.assertIs(type(found), list)
            found.reverse()
            found.append("spoilt")
            self.assertEqual(seen(house), before)
            getattr(house, call)(*given).clear()
            self.assertEqual(seen(house), before)

    def test_deeds_are_tuples_through_and_through(self):
        house = House()
        house.league("ours", ["red", "blue", "red"])
        house.lay("doge", [("lot", 3), ("lot", 1)])
        house.league("none", [])
        wanted = [("league", "ours", ("red", "blue", "red")), ("lay", "doge", (("lot", 3), ("lot", 1))),
                  ("league", "none", ())]
        self.assertEqual(house.deeds(), wanted)
        self.assertEqual([house.undo(), house.undo(), house.undo()], wanted[::-1])
        self.assertEqual([house.redo(), house.redo(), house.redo()], wanted)


if __name__ == "__main__":
    unittest.main()
