import inspect
import itertools
import math
import unittest

from ballotin.errors import BadPick, NoDraw
from ballotin.picks import number_of, pick, ways
from helper import Checks, in_few_rows


class Ways(unittest.TestCase):
    def test_arguments(self):
        self.assertEqual(list(inspect.signature(ways).parameters), ["many", "few"])
        self.assertEqual(ways(many=5, few=2), 10)

    def test_small_ones(self):
        for many in range(0, 13):
            for few in range(0, many + 1):
                found = ways(many, few)
                self.assertEqual(found, len(list(itertools.combinations(range(many), few))), (many, few))
                self.assertIs(type(found), int)

    def test_none_below_nought_and_above_many(self):
        for many in (0, 1, 2, 7, 60, 499, 500):
            for few in (-10 ** 30, -500, -2, -1, many + 1, many + 2, many + 500, 10 ** 30):
                self.assertEqual(in_few_rows(ways, many, few), 0, (many, few))

    def test_one_for_none_and_for_all(self):
        for many in range(0, 501):
            self.assertEqual(ways(many, 0), 1)
            self.assertEqual(ways(many, many), 1)

    def test_large_ones(self):
        for many in (60, 61, 100, 499, 500):
            for few in range(0, many + 1):
                self.assertEqual(in_few_rows(ways, many, few), math.comb(many, few), (many, few))


class ThereAndBack(unittest.TestCase):
    def test_arguments(self):
        self.assertEqual(list(inspect.signature(pick).parameters), ["many", "few", "number"])
        self.assertEqual(list(inspect.signature(number_of).parameters), ["many", "places"])
        self.assertEqual(pick(many=5, few=2, number=4), (1, 2))
        self.assertEqual(number_of(many=5, places=(1, 2)), 4)

    def test_kinds(self):
        found = pick(6, 3, 7)
        self.assertIs(type(found), tuple)
        self.assertEqual([type(place) for place in found], [int, int, int])
        self.assertIs(type(number_of(6, found)), int)

    def test_all_picks_of_small_many_in_the_order_of_tuples(self):
        for many in range(0, 10):
            for few in range(0, many + 1):
                wanted = sorted(itertools.combinations(range(many), few))
                self.assertEqual([pick(many, few, number) for number in range(len(wanted))], wanted)
                self.assertEqual([number_of(many, places) for places in wanted], list(range(len(wanted))))

    def test_none_picked(self):
        for many in (0, 1, 2, 60, 500):
            self.assertEqual(pick(many, 0, 0), ())
            self.assertEqual(number_of(many, ()), 0)

    def test_all_picked(self):
        for many in (0, 1, 2, 60, 500):
            self.assertEqual(pick(many, many, 0), tuple(range(many)))
            self.assertEqual(number_of(many, tuple(range(many))), 0)

    def test_first_and_last_of_large_ones(self):
        for many in (60, 250, 499, 500):
            for few in (1, 2, 30, many // 2, many - 1):
                first, last = tuple(range(few)), tuple(range(many - few, many))
                greatest = math.comb(many, few) - 1
                self.assertEqual(in_few_rows(pick, many, few, 0), first)
                self.assertEqual(in_few_rows(pick, many, few, greatest), last)
                self.assertEqual(in_few_rows(number_of, many, first), 0)
                self.assertEqual(in_few_rows(number_of, many, last), greatest)

    def test_numbers_between_of_large_ones(self):
        for many in (60, 250, 499, 500):
            for few in (1, 2, 30, many // 2, many - 1):
                total = math.comb(many, few)
                for number in (total // 2, total // 3, total * 5 // 7):
                    places = in_few_rows(pick, many, few, number)
                    self.assertEqual(len(places), few)
                    self.assertEqual(list(places), sorted(set(places)))
                    self.assertTrue(all(0 <= place < many for place in places))
                    self.assertEqual(in_few_rows(number_of, many, places), number)

    def test_order_of_large_ones(self):
        total = math.comb(500, 60)
        for number in (0, 1, total // 2, total * 2 // 3, total - 2):
            self.assertLess(pick(500, 60, number), pick(500, 60, number + 1))
        self.assertEqual(pick(500, 3, 498), (0, 2, 3))
        self.assertEqual(number_of(500, (0, 2, 3)), 498)
        self.assertEqual(pick(500, 3, math.comb(499, 2)), (1, 2, 3))

    def test_places_of_large_many_there_and_back(self):
        for places in (tuple(range(0, 500, 2)), tuple(range(1, 500, 7)), (0, 499), (499,), (17, 18, 400)):
            number = in_few_rows(number_of, 500, places)
            self.assertEqual(in_few_rows(pick, 500, len(places), number), places)


class PickRefused(Checks):
    def test_few_below_nought_or_above_many(self):
        for many in (0, 1, 5, 500):
            for few in (-10 ** 30, -2, -1, many + 1, many + 2, 10 ** 30):
                self.assert_refused(BadPick, pick, many, few, 0)

    def test_no_pick_has_the_number(self):
        for many, few in ((0, 0), (1, 0), (1, 1), (5, 2), (5, 5), (60, 30), (500, 0), (500, 250), (500, 500)):
            total = math.comb(many, few)
            for number in (-10 ** 200, -total, -1, total, total + 1, 10 ** 200):
                self.assert_refused(NoDraw, pick, many, few, number)
            self.assertEqual(len(pick(many, few, total - 1)), few)

    def test_bad_pick_ahead_of_no_draw(self):
        for many, few in ((0, -1), (0, 1), (5, -1), (5, 6), (500, 501)):
            for number in (-1, 0, 1, 10 ** 30):
                self.assert_refused(BadPick, pick, many, few, number)

    def test_numbers_too_long_to_be_written_out(self):
        self.assert_refused(NoDraw, pick, 5, 2, 10 ** 9000)
        self.assert_refused(NoDraw, pick, 5, 2, -10 ** 9000)
        self.assert_refused(BadPick, pick, 5, 10 ** 9000, 0)
        self.assert_refused(BadPick, number_of, 5, (10 ** 9000,))


class NumberOfRefused(Checks):
    def test_places_that_do_not_rise(self):
        for places in ((1, 0), (0, 2, 1), (4, 3), (2, 0, 1), (4, 3, 2, 1, 0)):
            self.assert_refused(BadPick, number_of, 5, places)

    def test_places_that_stand_twice(self):
        for places in ((0, 0), (4, 4), (0, 1, 1), (1, 2, 2, 3), (0, 0, 1, 2, 3, 4)):
            self.assert_refused(BadPick, number_of, 5, places)

    def test_places_below_nought(self):
        for places in ((-1,), (-1, 0), (-2, -1), (-5, 3), (-10 ** 30,), (0, -1)):
            self.assert_refused(BadPick, number_of, 5, places)

    def test_places_at_or_beyond_many(self):
        for many in (0, 1, 5, 500):
            for place in (many, many + 1, 10 ** 30):
                self.assert_refused(BadPick, number_of, many, (place,))
        self.assert_refused(BadPick, number_of, 5, (0, 5))
        self.assert_refused(BadPick, number_of, 5, (0, 1, 2, 3, 4, 5))

    def test_just_within(self):
        self.assertEqual(number_of(5, (4,)), 4)
        self.assertEqual(number_of(5, (0, 4)), 3)


if __name__ == "__main__":
    unittest.main()
