import inspect
import math
import unittest
from fractions import Fraction

from ballotin.parts import less, lowest, mean

LARGE = 10 ** 36


def pair(fraction):
    return (fraction.numerator, fraction.denominator)


class Kinds(unittest.TestCase):
    def assert_fraction(self, found):
        self.assertIs(type(found), tuple)
        self.assertEqual([type(part) for part in found], [int, int])
        self.assertGreaterEqual(found[1], 1)
        self.assertEqual(math.gcd(*found), 1)


class Lowest(Kinds):
    def test_arguments(self):
        self.assertEqual(list(inspect.signature(lowest).parameters), ["top", "bottom"])
        self.assertEqual(lowest(top=2, bottom=4), (1, 2))

    def test_written_cases(self):
        cases = [
            (1, 1, (1, 1)), (6, 4, (3, 2)), (-6, 4, (-3, 2)), (4, 6, (2, 3)), (-4, 6, (-2, 3)),
            (3, 7, (3, 7)), (-3, 7, (-3, 7)), (12, 4, (3, 1)), (-12, 4, (-3, 1)), (5, 1, (5, 1)),
            (-1, 2, (-1, 2)), (-7, 7, (-1, 1)),
        ]
        for top, bottom, wanted in cases:
            with self.subTest(top=top, bottom=bottom):
                self.assertEqual(lowest(top, bottom), wanted)
                self.assert_fraction(lowest(top, bottom))

    def test_nought_is_nought_of_one(self):
        for bottom in (1, 2, 9, LARGE, LARGE + 1):
            self.assertEqual(lowest(0, bottom), (0, 1))
            self.assert_fraction(lowest(0, bottom))

    def test_all_small_ones(self):
        for top in range(-30, 31):
            for bottom in range(1, 31):
                self.assertEqual(lowest(top, bottom), pair(Fraction(top, bottom)))

    def test_large_ones(self):
        for top in (LARGE, LARGE + 1, LARGE - 1, 6 * LARGE, 7 ** 43, 1):
            for bottom in (LARGE, LARGE + 1, 4 * LARGE, 3 * (LARGE + 1), 7 ** 40, 1):
                for sign in (1, -1):
                    found = lowest(sign * top, bottom)
                    self.assertEqual(found, pair(Fraction(sign * top, bottom)))
                    self.assert_fraction(found)
        self.assertEqual(lowest(6 * LARGE, 4 * LARGE), (3, 2))
        self.assertEqual(lowest(-LARGE, LARGE + 1), (-LARGE, LARGE + 1))


class Less(unittest.TestCase):
    def test_arguments(self):
        self.assertEqual(list(inspect.signature(less).parameters), ["one", "other"])
        self.assertIs(less(one=(1, 3), other=(1, 2)), True)

    def test_both_ways_about(self):
        rising = [
            (-LARGE, 1), (-3, 2), (-1, 1), (-1, 2), (-1, 3), (0, 1), (1, LARGE + 1), (1, LARGE), (1, 3), (1, 2),
            (2, 3), (LARGE - 1, LARGE), (1, 1), (LARGE + 1, LARGE), (3, 2), (LARGE, 1),
        ]
        for at, one in enumerate(rising):
            for place, other in enumerate(rising):
                with self.subTest(one=one, other=other):
                    self.assertIs(less(one, other), at < place)

    def test_equal_ones(self):
        for one in ((0, 1), (-5, 3), (5, 3), (LARGE, 7)):
            self.assertIs(less(one, tuple(one)), False)


class Mean(Kinds):
    def test_arguments(self):
        self.assertEqual(list(inspect.signature(mean).parameters), ["fractions"])
        self.assertEqual(mean(fractions=[(1, 2)]), (1, 2))

    def test_written_cases(self):
        cases = [
            ([(3, 4)], (3, 4)), ([(-3, 4)], (-3, 4)), ([(0, 1)], (0, 1)), ([(5, 1)], (5, 1)),
            ([(1, 2), (1, 3)], (5, 12)), ([(1, 2), (1, 2)], (1, 2)), ([(1, 2), (-1, 2)], (0, 1)),
            ([(0, 1), (1, 1)], (1, 2)), ([(1, 6), (1, 3), (1, 2)], (1, 3)), ([(-1, 2), (-1, 4)], (-3, 8)),
            ([(1, LARGE), (1, LARGE)], (1, LARGE)), ([(0, 1), (0, 1), (0, 1)], (0, 1)),
        ]
        for given, wanted in cases:
            with self.subTest(given=given):
                self.assertEqual(mean(given), wanted)
                self.assert_fraction(mean(given))

    def test_several(self):
        for many in range(1, 40):
            given = [lowest((at * 37) % 23 - 7, (at * many) % 19 + 1) for at in range(many)]
            found = mean(given)
            sums = [Fraction(top, bottom) for top, bottom in given]
            self.assertEqual(found, pair(sum(sums) / many))
            self.assert_fraction(found)
            for fraction in (min(sums), max(sums)):
                self.assertIn(pair(fraction), given)
            self.assertFalse(less(found, pair(min(sums))))
            self.assertFalse(less(pair(max(sums)), found))

    def test_large_ones(self):
        given = [(1, LARGE), (LARGE, LARGE + 1), (-LARGE, 7)]
        wanted = sum(Fraction(top, bottom) for top, bottom in given) / 3
        self.assertEqual(mean(given), pair(wanted))

    def test_the_list_handed_in_stays_as_it_is(self):
        given = [(1, 2), (2, 3), (-1, 5)]
        mean(given)
        self.assertEqual(given, [(1, 2), (2, 3), (-1, 5)])


if __name__ == "__main__":
    unittest.main()
