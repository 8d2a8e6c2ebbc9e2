import inspect
import itertools
import random
import unittest
from fractions import Fraction

from ballotin.chain import chance
from ballotin.errors import BadChance, BadCount, NotWhole
from ballotin.likes import fewest, gain, standing
from helper import HEAVY, LOT_1, Checks, friend_counts, in_few_rows, some_row, whole_rows


def chances_by_counting(count, row):
    """For 0 to all friends the chance, by going through all rows of draws."""
    heads = [[course[-1] for course in friend_counts(count, friends, row)] for friends in range(count + 1)]
    return [Fraction(sum(one), len(one)) for one in heads]


def pair(fraction):
    return (fraction.numerator, fraction.denominator)


def small_rows():
    for count, rounds in ((1, 2), (2, 3), (3, 3), (4, 2)):
        for row in whole_rows(count, rounds):
            yield count, row


def large_rows():
    source = random.Random(11)
    for count, rounds in itertools.product((60, 61, 500), (2, 20)):
        yield count, some_row(source, count, rounds)
    yield 500, [("lot", 9), ("vote", 40, 7, "council"), ("lot", 11), ("vote", 1, 6, "bench")]


class Small(Checks):
    def test_one_friend_more_never_lowers_the_chance(self):
        for count, row in small_rows():
            found = [Fraction(*chance(count, friends, row)) for friends in range(count + 1)]
            self.assertEqual(found, sorted(found))
            self.assertEqual(found, chances_by_counting(count, row))

    def test_standing(self):
        for count, row in small_rows():
            for friends, found in enumerate(chances_by_counting(count, row)):
                wanted = "sure" if found == 1 else "shut" if found == 0 else "open"
                self.assertEqual(standing(count, friends, row), wanted, (count, friends, row))

    def test_gain(self):
        for count, row in small_rows():
            found = chances_by_counting(count, row)
            for friends in range(count):
                wanted = pair(found[friends + 1] - found[friends])
                self.assertEqual(gain(count, friends, row), wanted, (count, friends, row))

    def test_fewest(self):
        for count, row in small_rows():
            found = chances_by_counting(count, row)
            for wish in sorted(set(found) | {Fraction(0), Fraction(1, 2), Fraction(2, 7), Fraction(1)}):
                wanted = min(friends for friends, one in enumerate(found) if one >= wish)
                self.assertEqual(fewest(count, row, pair(wish)), wanted, (count, row, wish))


class ByHand(Checks):
    def test_standing(self):
        vote = [("vote", 1, 3, "council")]
        self.assertEqual([standing(5, friends, vote) for friends in range(6)], ["shut"] * 3 + ["sure"] * 3)
        self.assertEqual([standing(3, friends, [LOT_1]) for friends in range(4)], ["shut", "open", "open", "sure"])
        self.assertEqual([standing(1, friends, []) for friends in (0, 1)], ["shut", "sure"])

    def test_gain(self):
        self.assertEqual([gain(5, friends, [LOT_1]) for friends in range(5)], [(1, 5)] * 5)
        found = [gain(5, friends, [("vote", 1, 3, "bench")]) for friends in range(5)]
        self.assertEqual(found, [(0, 1), (0, 1), (1, 1), (0, 1), (0, 1)])
        self.assertEqual(gain(1, 0, []), (1, 1))

    def test_fewest(self):
        for top, wanted in ((0, 0), (1, 1), (20, 1), (21, 2), (80, 4), (81, 5), (99, 5), (100, 5)):
            self.assertEqual(fewest(5, [LOT_1], pair(Fraction(top, 100))), wanted, top)
        for wish, wanted in (((0, 1), 0), ((1, 10 ** 9000), 3), ((1, 1), 3)):
            self.assertEqual(fewest(5, [("vote", 1, 3, "council")], wish), wanted)
        self.assertEqual(fewest(1, [], (0, 1)), 0)
        self.assertEqual(fewest(1, [], (1, 1)), 1)


class Large(Checks):
    def test_fewest(self):
        for count, row in large_rows():
            found = [Fraction(*chance(count, friends, row)) for friends in range(count + 1)]
            self.assertEqual(found, sorted(found))
            for friends in (0, 1, count // 3, count // 2, count - 1, count):
                for wish in (found[friends], (found[friends] + 1) / 2):
                    wanted = min(least for least, one in enumerate(found) if one >= wish)
                    self.assertEqual(fewest(count, row, pair(wish)), wanted, (count, row, wish))
                if friends < count:
                    self.assertEqual(gain(count, friends, row), pair(found[friends + 1] - found[friends]))

    def test_just_past_a_chance(self):
        row = [("lot", 60), LOT_1]
        self.assertEqual(fewest(500, row, (123, 500)), 123)
        self.assertEqual(fewest(500, row, (123 * 10 ** 50 + 1, 500 * 10 ** 50)), 124)
        self.assertEqual(fewest(500, row, (123 * 10 ** 50 - 1, 500 * 10 ** 50)), 123)

    def test_most_rounds_with_most_to_reckon(self):
        self.assertEqual(in_few_rows(standing, 500, 250, HEAVY, most=1_000_000), "open")
        self.assertEqual(in_few_rows(fewest, 500, HEAVY, (1, 2), most=6_000_000), 250)
        self.assertLess(0, in_few_rows(gain, 500, 250, HEAVY, most=2_000_000)[0])


class Refused(Checks):
    def test_arguments(self):
        for call in (standing, gain):
            self.assertEqual(list(inspect.signature(call).parameters), ["count", "friends", "row"])
        self.assertEqual(list(inspect.signature(fewest).parameters), ["count", "row", "wish"])

    def test_count(self):
        for count in (-1, 0, 501, 10 ** 9000):
            for row in ([], [LOT_1], [("lot", 0)], [("lot", 2)]):
                for friends in (-1, 0, 1, 501):
                    self.assert_refused(BadCount, standing, count, friends, row)
                    self.assert_refused(BadCount, gain, count, friends, row)
                for wish in ((-1, 1), (1, 2), (2, 1)):
                    self.assert_refused(BadCount, fewest, count, row, wish)
        for count in (1, 500):
            self.assertEqual(fewest(count, [LOT_1], (1, 1)), count)
            self.assertEqual(standing(count, count, [LOT_1]), "sure")
            self.assertEqual(gain(count, 0, [LOT_1]), (1, count))

    def test_rounds(self):
        for friends in (-1, 0, 5, 6):
            for call in (standing, gain):
                self.assert_bad_round(1, call, 5, friends, [("lot", 3), ("lot", 4)])
        for wish in ((-1, 1), (1, 2), (2, 1)):
            self.assert_bad_round(1, fewest, 5, [("lot", 3), ("lot", 4), ("lot", 5)], wish)

    def test_not_whole(self):
        for row in ([], [("lot", 3)]):
            for friends in (-1, 0, 5, 6):
                for call in (standing, gain):
                    self.assert_refused(NotWhole, call, 5, friends, row)
            for wish in ((-1, 1), (1, 2), (2, 1)):
                self.assert_refused(NotWhole, fewest, 5, row, wish)

    def test_friends(self):
        for friends in (-10 ** 9000, -1, 6, 10 ** 9000):
            for call in (standing, gain):
                self.assert_refused(BadCount, call, 5, friends, [LOT_1])

    def test_gain_where_all_are_friends(self):
        for count in (1, 5, 500):
            self.assert_refused(BadCount, gain, count, count, [LOT_1])
            self.assertEqual(gain(count, count - 1, [LOT_1]), (1, count))
        self.assert_refused(BadCount, gain, 1, 1, [])
        self.assert_refused(NotWhole, gain, 5, 5, [])

    def test_wish(self):
        for wish in ((-1, 1), (-1, 10 ** 9000), (2, 1), (6, 5), (10 ** 9000 + 1, 10 ** 9000), (-10 ** 9000, 1)):
            self.assert_refused(BadChance, fewest, 5, [LOT_1], wish)
            self.assert_refused(BadChance, fewest, 1, [], wish)


class Kept(Checks):
    def test_nothing_handed_in_is_changed(self):
        row = [("lot", 3), ("vote", 2, 3, "bench"), LOT_1]
        self.assert_hands_off(standing, 5, 2, row)
        self.assert_hands_off(gain, 5, 2, row)
        self.assert_hands_off(fewest, 5, row, (1, 3))

    def test_kinds(self):
        self.assertIs(type(standing(5, 2, [LOT_1])), str)
        self.assertIs(type(gain(5, 2, [LOT_1])), tuple)
        self.assertIs(type(fewest(5, [LOT_1], (1, 2))), int)


if __name__ == "__main__":
    unittest.main()
