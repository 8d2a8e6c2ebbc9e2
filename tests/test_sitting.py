"""Sittings ball by ball, as a house tells them."""

import itertools
import random
import unittest

from ballotin.chain import chance
from ballotin.errors import NoHead, NoPerson, NoSitting, NotDue
from ballotin.house import House
from ballotin.parts import lowest, mean
from helper import (
    LOT_1, Checks, all_courses, friends_on, house_of, in_few_rows, next_bench, roll_of, seen, some_row, whole_rows,
)

MOST_ROWS = 3_000_000
LISTS = ("bench", "waiting", "drawn", "story")


class Model:
    """A sitting by the document's words; people are pairs of a place and True for a friend."""

    def __init__(self, people, row):
        self.people, self.row = people, row
        self.benches, self.balls, self.hangs = [people], [], False

    def step(self):
        return self.row[len(self.benches) - 1]

    def due(self):
        if len(self.benches) > len(self.row):
            return "done"
        return "draw" if self.step()[0] == "lot" or self.hangs else "poll"

    def pool(self):
        return self.people if self.step()[-1] == "council" else self.benches[-1]

    def waiting(self):
        return [one for one in self.pool() if one not in self.balls] if self.due() == "draw" else []

    def behind(self, ball):
        """Behind a ball, or behind a poll where it is None."""
        other = Model(self.people, self.row)
        other.benches, other.balls, other.hangs = list(self.benches), list(self.balls), self.hangs
        if ball is not None:
            other.balls.append(ball)
            if len(other.balls) < self.step()[1]:
                return other
            new = sorted(other.balls)
        else:
            word, voices = self.step()[3], friends_on(self.benches[-1])
            other.hangs = max(voices, len(self.benches[-1]) - voices) < self.step()[2] and word != "stay"
            if other.hangs:
                return other
            new = next_bench(self.people, self.benches[-1], self.step(), None)
        other.benches, other.balls, other.hangs = other.benches + [new], [], False
        return other

    def chance(self):
        """By all ways in which what is still to be drawn may come."""
        over = len(self.benches) - 1
        courses = []
        if self.due() == "draw":
            for more in itertools.combinations(self.waiting(), self.step()[1] - len(self.balls)):
                courses += all_courses(self.people, sorted(self.balls + list(more)), self.row[over + 1:])
        else:
            courses = all_courses(self.people, self.benches[-1], self.row[over:])
        return lowest(sum(friends_on(course[-1]) for course in courses), len(courses))


class ByModel(Checks):
    def assert_as_model(self, house, model, folk):
        """The house tells of the sitting what the model does, and the chance is the mean of those behind."""
        def named(bench):
            return [folk[place] for place, friend in bench]

        self.assertEqual(house.due("s"), model.due())
        self.assertEqual(house.bench("s"), named(model.benches[-1]))
        self.assertEqual(house.waiting("s"), named(model.waiting()))
        self.assertEqual(house.drawn("s"), named(model.balls))
        self.assertEqual(house.story("s"), [named(bench) for bench in model.benches[1:]])
        self.assertEqual(house.chance("s"), model.chance())
        if model.due() == "done":
            self.assertEqual(house.head("s"), named(model.benches[-1])[0])
        else:
            self.assert_refused(NoHead, house.head, "s")

    def assert_whole_tree(self, house, model, folk):
        """Goes through each ball that may be drawn, and takes each back."""
        self.assert_as_model(house, model, folk)
        if model.due() == "poll":
            before = house.chance("s")
            house.poll("s")
            self.assertEqual(house.chance("s"), before)
            self.assert_whole_tree(house, model.behind(None), folk)
            house.undo()
        elif model.due() == "draw":
            before, behind = house.chance("s"), []
            for ball in model.waiting():
                house.draw("s", folk[ball[0]])
                behind.append(house.chance("s"))
                self.assert_whole_tree(house, model.behind(ball), folk)
                house.undo()
            self.assertEqual(before, mean(behind))

    def assert_sitting(self, folk, friends, row):
        house = house_of(folk, friends, row)
        house.begin("s", "way", "ours")
        self.assertEqual(house.chance("s"), house.outlook("way", "ours"))
        self.assert_whole_tree(house, Model([(at, name in friends) for at, name in enumerate(folk)], row), folk)

    def test_each_ball_in_small_councils(self):
        for count, rounds in ((1, 3), (2, 3), (3, 2), (4, 2)):
            folk = roll_of(count)
            for row, chosen in itertools.product(whole_rows(count, rounds), range(2 ** count)):
                self.assert_sitting(folk, [folk[at] for at in range(count) if chosen >> at & 1], row)

    def test_longer_rows(self):
        folk = roll_of(4)
        for friends in ([folk[0], folk[3]], folk[1:]):
            for row in (
                [("lot", 2), ("vote", 3, 2, "council"), LOT_1],
                [("lot", 2), ("vote", 2, 2, "stay"), ("vote", 1, 2, "bench")],
                [("vote", 2, 3, "bench"), ("vote", 1, 2, "council")],
                [("vote", 4, 3, "stay"), ("vote", 2, 3, "council"), ("vote", 2, 2, "bench"), LOT_1],
            ):
                self.assert_sitting(folk, friends, row)


class Large(Checks):
    def assert_mean(self, house):
        """The chance is the mean of the chances behind each ball that may be drawn next."""
        before, behind = house.chance("s"), []
        for person in house.waiting("s"):
            house.draw("s", person)
            behind.append(house.chance("s"))
            house.undo()
        self.assertEqual(house.chance("s"), before)
        self.assertEqual(mean(behind), before)

    def assert_to_the_end(self, source, folk, friends, row):
        house = house_of(folk, friends, row)
        house.begin("s", "way", "ours")
        wanted = chance(len(folk), len(friends), row)
        self.assertEqual(in_few_rows(house.chance, "s", most=MOST_ROWS), wanted)
        while house.due("s") != "done":
            if house.due("s") == "poll":
                before = house.chance("s")
                house.poll("s")
                self.assertEqual(house.chance("s"), before)
            else:
                self.assert_mean(house)
                house.draw("s", source.choice(house.waiting("s")))
        self.assertEqual(house.chance("s"), (1, 1) if house.head("s") in friends else (0, 1))
        self.assertEqual([len(bench) for bench in house.story("s")], [step[1] for step in row])

    def test_some_rows(self):
        source = random.Random(30)
        for count, rounds in ((30, 3), (30, 6), (45, 4), (59, 3), (60, 3), (60, 5)):
            folk = roll_of(count)
            friends = source.sample(folk, source.randint(count // 3, 2 * count // 3))
            self.assert_to_the_end(source, folk, friends, some_row(source, count, rounds))

    def test_votes_that_hang(self):
        source = random.Random(31)
        for count in (30, 60):
            folk = roll_of(count)
            row = [("vote", 9, count, "council"), ("vote", 9, 9, "stay"), ("vote", 7, 9, "bench"), ("lot", 3),
                   ("vote", 11, 3, "council"), ("vote", 1, 11, "bench")]
            self.assert_to_the_end(source, folk, folk[::2], row)

    def test_most_rounds(self):
        folk = roll_of(60)
        row = [("vote", 60, 60, "stay")] + [("vote", 60, 31, "bench")] * 18 + [LOT_1]
        self.assert_to_the_end(random.Random(32), folk, folk[:29], row)


class ByHand(Checks):
    folk = ["dora", "abel", "cora", "bert", "enzo"]

    def begun(self, friends, row, folk=None):
        house = house_of(folk or self.folk, friends, row)
        house.begin("s", "way", "ours")
        return house

    def assert_stands(self, house, due, bench, waiting, drawn):
        self.assertEqual(house.due("s"), due)
        self.assertEqual([house.bench("s"), house.waiting("s"), house.drawn("s")],
                         [bench.split(), waiting.split(), drawn.split()])

    def test_a_lot(self):
        house = self.begun(["abel", "enzo"], [("lot", 3), LOT_1])
        self.assert_stands(house, "draw", "dora abel cora bert enzo", "dora abel cora bert enzo", "")
        self.assertEqual(house.chance("s"), (2, 5))
        house.draw("s", "enzo")
        self.assert_stands(house, "draw", "dora abel cora bert enzo", "dora abel cora bert", "enzo")
        self.assertEqual(house.chance("s"), (1, 2))
        house.draw("s", "dora")
        self.assert_stands(house, "draw", "dora abel cora bert enzo", "abel cora bert", "enzo dora")
        self.assertEqual(house.chance("s"), (4, 9))
        self.assertEqual(house.story("s"), [])
        house.draw("s", "cora")
        self.assert_stands(house, "draw", "dora cora enzo", "dora cora enzo", "")
        self.assertEqual(house.story("s"), [["dora", "cora", "enzo"]])
        self.assertEqual(house.chance("s"), (1, 3))
        house.draw("s", "enzo")
        self.assert_stands(house, "done", "enzo", "", "")
        self.assertEqual(house.story("s"), [["dora", "cora", "enzo"], ["enzo"]])
        self.assertEqual((house.head("s"), house.chance("s")), ("enzo", (1, 1)))

    def test_a_side_seats_the_bench(self):
        house = self.begun(["abel", "enzo"], [("vote", 4, 3, "council"), ("vote", 1, 3, "bench")])
        self.assert_stands(house, "poll", "dora abel cora bert enzo", "", "")
        self.assertEqual(house.chance("s"), (0, 1))
        house.poll("s")
        self.assert_stands(house, "poll", "dora abel cora bert", "", "")
        house.poll("s")
        self.assert_stands(house, "done", "dora", "", "")
        self.assertEqual((house.head("s"), house.chance("s")), ("dora", (0, 1)))
        self.assertEqual(house.story("s"), [["dora", "abel", "cora", "bert"], ["dora"]])

    def test_votes_that_hang(self):
        row = [("vote", 2, 4, "bench"), ("vote", 2, 2, "stay"), ("vote", 1, 2, "council")]
        house = self.begun(["abel", "enzo"], row)
        house.poll("s")
        self.assert_stands(house, "draw", "dora abel cora bert enzo", "dora abel cora bert enzo", "")
        house.draw("s", "enzo")
        house.draw("s", "bert")
        self.assert_stands(house, "poll", "bert enzo", "", "")
        house.poll("s")
        self.assert_stands(house, "poll", "bert enzo", "", "")
        self.assertEqual(house.story("s"), [["bert", "enzo"]] * 2)
        self.assertEqual(house.chance("s"), (2, 5))
        house.poll("s")
        self.assert_stands(house, "draw", "bert enzo", "dora abel cora bert enzo", "")
        self.assertEqual(house.chance("s"), (2, 5))
        house.draw("s", "dora")
        self.assert_stands(house, "done", "dora", "", "")

    def test_no_rounds(self):
        house = self.begun(["anna"], [], ["anna"])
        self.assert_stands(house, "done", "anna", "", "")
        self.assertEqual((house.head("s"), house.chance("s"), house.story("s")), ("anna", (1, 1), []))
        self.assert_refused(NotDue, house.draw, "s", "anna")
        self.assert_refused(NotDue, house.poll, "s")

    def test_refusals(self):
        house = self.begun(["abel", "enzo"], [("lot", 3), ("vote", 3, 3, "bench"), LOT_1])
        self.assert_refused(NotDue, house.poll, "s")
        house.draw("s", "bert")
        for person in ("bert", "zoe", "", "Abel"):
            self.assert_refused(NoPerson, house.draw, "s", person)
        house.draw("s", "abel")
        house.draw("s", "enzo")
        for person in ("bert", "dora", "zoe"):
            self.assert_refused(NotDue, house.draw, "s", person)
        house.poll("s")
        self.assert_refused(NotDue, house.poll, "s")
        for person in ("dora", "cora"):
            self.assert_refused(NoPerson, house.draw, "s", person)
        for person in ("enzo", "bert", "abel"):
            house.draw("s", person)
        self.assert_refused(NoHead, house.head, "s")
        self.assert_refused(NoPerson, house.draw, "s", "dora")
        house.draw("s", "abel")
        self.assert_refused(NotDue, house.draw, "s", "abel")
        self.assert_refused(NotDue, house.poll, "s")

    def test_no_sitting(self):
        house = self.begun(["abel"], [LOT_1])
        for name in ("t", "", "S", "way", "ours", "abel"):
            for call in (house.due, house.bench, house.waiting, house.drawn, house.chance, house.head, house.story,
                         house.poll, house.shut):
                self.assert_refused(NoSitting, call, name)
            self.assert_refused(NoSitting, house.draw, name, "abel")
            self.assert_refused(NoSitting, house.draw, name, "zoe")
        house.shut("s")
        self.assert_refused(NoSitting, house.due, "s")


class Kept(Checks):
    def test_a_sitting_keeps_all_as_it_was(self):
        folk, row = roll_of(5), [("lot", 3), ("vote", 2, 3, "council"), LOT_1]
        house, other = [house_of(folk, folk[:2], row) for _ in range(2)]
        for one in (house, other):
            one.begin("s", "way", "ours")
        later = [
            lambda: house.strike(folk[0]),
            lambda: house.move(folk[1], "ill"),
            lambda: house.league("ours", ["ill"]),
            lambda: house.lay("way", [LOT_1]),
            lambda: house.drop("way"),
            lambda: house.dissolve("ours"),
            lambda: house.enroll("late", "good"),
        ]
        balls = [folk[0], folk[2], folk[1], None, folk[4], folk[0], folk[0]]
        for deed, ball in zip(later, balls):
            deed()
            for one in (house, other):
                if ball is None:
                    one.poll("s")
                else:
                    one.draw("s", ball)
            for call in ("due", "chance") + LISTS:
                self.assertEqual(getattr(house, call)("s"), getattr(other, call)("s"))
        self.assertEqual(house.head("s"), folk[0])
        self.assertEqual(house.chance("s"), (1, 1))

    def test_sittings_side_by_side(self):
        folk = roll_of(4)
        house = house_of(folk, folk[:2], [("lot", 2), LOT_1])
        house.begin("s", "way", "ours")
        house.begin("t", "way", "ours")
        house.draw("s", folk[3])
        house.draw("t", folk[0])
        house.draw("s", folk[1])
        self.assertEqual((house.bench("s"), house.drawn("t")), ([folk[1], folk[3]], [folk[0]]))
        self.assertEqual(house.sittings(), ["s", "t"])
        house.shut("s")
        self.assertEqual((house.sittings(), house.drawn("t")), (["t"], [folk[0]]))

    def test_told_lists_are_new(self):
        folk = roll_of(4)
        house = house_of(folk, folk[:2], [("lot", 2), ("vote", 2, 2, "council"), LOT_1])
        house.begin("s", "way", "ours")
        for ball in (folk[3], folk[1], None, folk[2]):
            if ball is None:
                house.poll("s")
            else:
                house.draw("s", ball)
            before = seen(house)
            for call in LISTS:
                self.assert_hands_off(getattr(house, call), "s")
                getattr(house, call)("s").clear()
            self.assertEqual(seen(house), before)

    def test_kinds(self):
        house = House()
        house.enroll("anna", "a")
        house.league("ours", [])
        house.lay("way", [LOT_1])
        house.begin("s", "way", "ours")
        self.assertEqual(house.chance("s"), (0, 1))
        self.assertEqual([type(one) for one in house.chance("s")], [int, int])
        house.draw("s", "anna")
        self.assertEqual([type(one) for one in house.chance("s")], [int, int])
        self.assertIs(type(house.chance("s")), tuple)


if __name__ == "__main__":
    unittest.main()
