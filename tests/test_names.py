import inspect
import itertools
import random
import unittest

from ballotin.chain import friendly_many
from ballotin.errors import BadCount, NoDraw, NotWhole
from ballotin.names import benches, friendly, head, place_of, unfriendly
from ballotin.picks import pick
from ballotin.rounds import draws, parted, sizes_ahead
from helper import (
    HEAVY, LOT_1, Checks, all_courses, friends_on, in_few_rows, next_bench, roll_of, some_row, whole_rows,
)

BY_NUMBER = (benches, head, place_of)
BY_K = (friendly, unfriendly)
MOST_ROWS = 3_000_000


def people_of(folk, friends):
    return [(place, name in friends) for place, name in enumerate(folk)]


def small_cases():
    """Each whole row of few rounds in small councils, with each choice of friends."""
    for count, rounds in ((1, 2), (2, 3), (3, 2), (4, 2)):
        folk = roll_of(count)
        for row, chosen in itertools.product(whole_rows(count, rounds), range(2 ** count)):
            yield folk, [name for place, name in enumerate(folk) if chosen >> place & 1], row


def longer_cases():
    """Rows of more rounds, as long as their rows of draws can be gone through."""
    source = random.Random(5)
    for count, rounds in itertools.product((3, 4, 5, 6), (2, 3, 4, 5)):
        for row in [some_row(source, count, rounds) for _ in range(6)]:
            if draws(count, row) <= 300:
                yield roll_of(count), source.sample(roll_of(count), source.randint(0, count)), row


def large_cases(rounds_each=(1, 2, 4, 20)):
    source = random.Random(60)
    for count, rounds in itertools.product((7, 30, 59, 60), rounds_each):
        folk = roll_of(count)
        for many in sorted({1, count // 2, source.randint(0, count)}):
            yield source, folk, source.sample(folk, many), some_row(source, count, rounds)


def course_by_parts(folk, friends, row, number):
    """The benches by the single draws, as the other tests know them."""
    people = bench = people_of(folk, friends)
    ahead, found = sizes_ahead(len(folk), row), []
    for step, sit, own in zip(row, ahead, parted(len(folk), row, number)):
        many = len(folk) if step[-1] == "council" else sit
        bench = next_bench(people, bench, step, () if step[-1] == "stay" else pick(many, step[1], own))
        found.append([folk[place] for place, friend in bench])
    return found


class Small(Checks):
    def assert_all_rows_of_draws(self, folk, friends, row):
        people = people_of(folk, friends)
        good, ill = [], []
        courses = all_courses(people, people, row)
        for number, course in enumerate(courses):
            told = [[folk[place] for place, friend in bench] for bench in course]
            self.assertEqual(benches(folk, friends, row, number), told[1:])
            self.assertEqual(head(folk, friends, row, number), told[-1][0])
            own = good if friends_on(course[-1]) else ill
            self.assertEqual(place_of(folk, friends, row, number), (own is good, len(own)))
            own.append(number)
        self.assertEqual([friendly(folk, friends, row, k) for k in range(len(good))], good)
        self.assertEqual([unfriendly(folk, friends, row, k) for k in range(len(ill))], ill)
        for number in (-1, len(courses)):
            for call in BY_NUMBER:
                self.assert_refused(NoDraw, call, folk, friends, row, number)
        for call, own in zip(BY_K, (good, ill)):
            for k in (-1, len(own)):
                self.assert_refused(NoDraw, call, folk, friends, row, k)

    def test_each_choice_of_friends(self):
        for case in small_cases():
            self.assert_all_rows_of_draws(*case)

    def test_longer_rows(self):
        for case in longer_cases():
            self.assert_all_rows_of_draws(*case)


class ByHand(Checks):
    folk = ["dora", "abel", "cora", "bert", "enzo"]

    def test_places_go_by_the_roll(self):
        row = [("lot", 3), ("lot", 2), LOT_1]
        # (1, 3, 4) is the pick number 8 of 10; (0, 2) the number 1 of 3; (1,) the number 1 of 2.
        number = (8 * 3 + 1) * 2 + 1
        self.assertEqual(benches(self.folk, [], row, number), [["abel", "bert", "enzo"], ["abel", "enzo"], ["enzo"]])
        self.assertEqual(head(self.folk, [], row, number), "enzo")

    def test_a_side_seats_its_first_ones_in_the_rolls_order(self):
        friends = ["enzo", "abel", "bert"]
        row = [("vote", 2, 3, "council"), LOT_1]
        self.assertEqual(benches(self.folk, friends, row, 0), [["abel", "bert"], ["abel"]])
        row = [("vote", 4, 3, "council"), LOT_1]
        self.assertEqual(benches(self.folk, friends, row, 0), [["dora", "abel", "bert", "enzo"], ["dora"]])
        friends = ["enzo", "abel"]
        row = [("vote", 4, 3, "bench"), LOT_1]
        self.assertEqual(benches(self.folk, friends, row, 3), [["dora", "abel", "cora", "bert"], ["bert"]])
        row = [("vote", 2, 3, "bench"), LOT_1]
        self.assertEqual(benches(self.folk, friends, row, 19), [["dora", "cora"], ["cora"]])

    def test_a_vote_that_hangs(self):
        friends = ["dora", "abel"]
        row = [("lot", 2), ("vote", 2, 2, "stay"), LOT_1]
        self.assertEqual(benches(self.folk, friends, row, 3), [["dora", "cora"], ["dora", "cora"], ["cora"]])
        row = [("lot", 2), ("vote", 1, 2, "bench")]
        self.assertEqual(benches(self.folk, friends, row, 3), [["dora", "cora"], ["cora"]])
        row = [("lot", 2), ("vote", 1, 2, "council")]
        self.assertEqual(benches(self.folk, friends, row, 9), [["dora", "cora"], ["enzo"]])

    def test_numbers(self):
        friends = ["abel", "enzo"]
        self.assertEqual([friendly(self.folk, friends, [LOT_1], k) for k in (0, 1)], [1, 4])
        self.assertEqual([unfriendly(self.folk, friends, [LOT_1], k) for k in (0, 1, 2)], [0, 2, 3])
        wanted = [(False, 0), (True, 0), (False, 1), (False, 2), (True, 1)]
        self.assertEqual([place_of(self.folk, friends, [LOT_1], number) for number in range(5)], wanted)

    def test_no_rounds(self):
        self.assertEqual(benches(["anna"], ["anna"], [], 0), [])
        self.assertEqual(head(["anna"], [], [], 0), "anna")
        self.assertEqual(friendly(["anna"], ["anna"], [], 0), 0)
        self.assertEqual(unfriendly(["anna"], [], [], 0), 0)
        self.assertEqual(place_of(["anna"], ["anna"], [], 0), (True, 0))
        self.assertEqual(place_of(["anna"], ["otto"], [], 0), (False, 0))
        self.assert_refused(NoDraw, friendly, ["anna"], [], [], 0)
        self.assert_refused(NoDraw, unfriendly, ["anna"], ["anna"], [], 0)

    def test_friends_twice_or_not_on_the_roll_count_for_nothing(self):
        row = [("lot", 3), ("vote", 2, 2, "council"), LOT_1]
        plain, odd = ["abel", "bert"], ["zoe", "bert", "abel", "", "abel", "zoe", "bert", "Abel", "bert"]
        for number in range(0, draws(5, row), 7):
            for call in BY_NUMBER:
                self.assertEqual(call(self.folk, odd, row, number), call(self.folk, plain, row, number))
        for k in range(40):
            for call in BY_K:
                self.assertEqual(call(self.folk, odd, row, k), call(self.folk, plain, row, k))

    def test_names_are_any_texts(self):
        folk = ["", "A b", "\n", "a", "a" * 30]
        self.assertEqual(benches(folk, [""], [("vote", 2, 3, "council"), LOT_1], 0), [["A b", "\n"], ["A b"]])
        self.assertEqual(friendly(folk, ["\n", "a" * 30], [LOT_1], 1), 4)


class Large(Checks):
    def some_numbers(self, source, many):
        return sorted({0, many - 1} | {source.randrange(many) for _ in range(4)})

    def test_benches_and_heads(self):
        for source, folk, friends, row in large_cases():
            for number in self.some_numbers(source, draws(len(folk), row)):
                found = in_few_rows(benches, folk, friends, row, number, most=MOST_ROWS)
                self.assertEqual(found, course_by_parts(folk, friends, row, number))
                self.assertEqual(head(folk, friends, row, number), found[-1][0])

    def test_from_numbers_there_and_back(self):
        for source, folk, friends, row in large_cases():
            for number in self.some_numbers(source, draws(len(folk), row)):
                good, k = in_few_rows(place_of, folk, friends, row, number, most=MOST_ROWS)
                self.assertIs(good, head(folk, friends, row, number) in friends)
                back = friendly if good else unfriendly
                self.assertEqual(in_few_rows(back, folk, friends, row, k, most=MOST_ROWS), number)

    def test_to_numbers_there_and_back(self):
        for source, folk, friends, row in large_cases():
            good = friendly_many(len(folk), len(friends), row)
            for call, many in ((friendly, good), (unfriendly, draws(len(folk), row) - good)):
                for k in self.some_numbers(source, many) if many else []:
                    number = in_few_rows(call, folk, friends, row, k, most=MOST_ROWS)
                    self.assertIs(head(folk, friends, row, number) in friends, call is friendly)
                    self.assertEqual(place_of(folk, friends, row, number), (call is friendly, k))
                for k in (-10 ** 9000, -1, many, many + 1, 10 ** 9000):
                    self.assert_refused(NoDraw, call, folk, friends, row, k)

    def test_neighbours(self):
        for source, folk, friends, row in large_cases((2, 4)):
            many = draws(len(folk), row)
            start = source.randrange(max(1, many - 30))
            counted = {}
            for number in range(start, min(many, start + 30)):
                good, k = place_of(folk, friends, row, number)
                self.assertEqual(counted.get(good, k), k)
                counted[good] = k + 1
                counted.setdefault(not good, number - k)

    def test_most_rounds(self):
        folk = roll_of(60)
        row = [("vote", 30, 60, "council")] + [("vote", 30, 30, "council")] * 18 + [LOT_1]
        many = friendly_many(60, 20, row)
        for k in (0, many // 3, many - 1):
            number = in_few_rows(friendly, folk, folk[20:40], row, k, most=MOST_ROWS)
            self.assertEqual(in_few_rows(place_of, folk, folk[20:40], row, number, most=MOST_ROWS), (True, k))

    def test_rolls_somewhat_beyond_the_bound(self):
        for count in (61, 70):
            folk = roll_of(count)
            self.assertEqual(head(folk, [], [("lot", 60), LOT_1], 59), folk[59])
            self.assertEqual(friendly(folk, folk[-1:], [LOT_1], 0), count - 1)
            self.assertEqual(place_of(folk, folk[1:], [LOT_1], count - 1), (True, count - 2))


class Refused(Checks):
    def assert_all_refused(self, wanted, folk, friends, row):
        for call, number in itertools.product(BY_NUMBER + BY_K, (-1, 0, 10 ** 9000)):
            self.assert_refused(wanted, call, folk, friends, row, number)

    def test_arguments(self):
        for call in BY_NUMBER:
            self.assertEqual(list(inspect.signature(call).parameters), ["folk", "friends", "row", "number"])
        for call in BY_K:
            self.assertEqual(list(inspect.signature(call).parameters), ["folk", "friends", "row", "k"])

    def test_nobody(self):
        for row in ([], [LOT_1], [("lot", 0)]):
            self.assert_all_refused(BadCount, [], ["anna"], row)

    def test_rounds(self):
        folk = roll_of(5)
        for at, row in ((0, [("lot", 6), LOT_1]), (1, [("lot", 3), ("lot", 4), LOT_1]), (1, [LOT_1, ("lot", 2)]),
                        (2, [("lot", 3), ("vote", 3, 2, "stay"), ("vote", 1, 1, "council")]), (0, [("coin", 1)]),
                        (0, [("vote", 1, 3, "noise")]), (0, HEAVY)):
            for call, number in itertools.product(BY_NUMBER + BY_K, (-1, 0, 10 ** 9000)):
                self.assert_bad_round(at, call, folk, folk[:2], row, number)

    def test_not_whole(self):
        for row in ([], [("lot", 3)], [LOT_1, ("vote", 5, 1, "council")]):
            self.assert_all_refused(NotWhole, roll_of(5), ["anna"], row)

    def test_no_draw(self):
        folk, row = roll_of(5), [("lot", 3), LOT_1]
        for call, number in itertools.product(BY_NUMBER, (-10 ** 9000, -1, 30, 31, 10 ** 9000)):
            self.assert_refused(NoDraw, call, folk, folk[:2], row, number)
        self.assert_refused(NoDraw, friendly, folk, folk[:2], row, 12)
        self.assert_refused(NoDraw, unfriendly, folk, folk[:2], row, 18)
        self.assertLess(friendly(folk, folk[:2], row, 11), 30)
        self.assertLess(unfriendly(folk, folk[:2], row, 17), 30)
        self.assert_refused(NoDraw, friendly, folk, ["nobody"], row, 0)
        self.assert_refused(NoDraw, unfriendly, folk, folk, row, 0)


class Kept(Checks):
    def test_nothing_handed_in_is_changed(self):
        folk, row = roll_of(5), [("lot", 3), ("vote", 3, 3, "stay"), ("vote", 2, 3, "council"), LOT_1]
        for call, number in itertools.product(BY_NUMBER + BY_K, (0, 7, 60)):
            self.assert_hands_off(call, folk, [folk[3], folk[0], folk[3], "zoe"], row, number)

    def test_kinds(self):
        folk = roll_of(5)
        found = place_of(folk, folk[:2], [LOT_1], 3)
        self.assertIs(type(found), tuple)
        self.assertEqual([type(one) for one in found], [bool, int])
        self.assertIs(type(friendly(folk, folk[:2], [LOT_1], 0)), int)
        self.assertIs(type(benches(folk, [], [("vote", 5, 5, "stay"), LOT_1], 0)[0]), list)


if __name__ == "__main__":
    unittest.main()
