import inspect
import itertools
import math
import unittest

from ballotin.bench import behind, behind_lot, seated, side
from ballotin.rounds import draws_row
from helper import Checks, council, friends_on, in_few_rows, next_bench, picks_of, rounds_that_fit


def tally(numbers, most):
    return [numbers.count(number) for number in range(most + 1)]


class BehindLot(Checks):
    def test_arguments(self):
        self.assertEqual(list(inspect.signature(behind_lot).parameters), ["bench", "on", "few"])

    def test_all_picks_of_small_benches(self):
        for bench in range(0, 8):
            for on, few in itertools.product(range(bench + 1), range(bench + 1)):
                picks = itertools.combinations([True] * on + [False] * (bench - on), few)
                self.assertEqual(behind_lot(bench, on, few), tally([sum(one) for one in picks], few))

    def test_by_hand(self):
        self.assertEqual(behind_lot(5, 2, 3), [1, 6, 3, 0])
        self.assertEqual(behind_lot(5, 4, 3), [0, 0, 6, 4])
        self.assertEqual(behind_lot(3, 0, 2), [3, 0, 0])
        self.assertEqual(behind_lot(3, 3, 2), [0, 0, 3])
        self.assertEqual(behind_lot(3, 2, 0), [1])

    def test_large_benches(self):
        for on in (0, 1, 30, 59, 60, 61, 250, 440, 499, 500):
            for few in (1, 2, 59, 60):
                found = in_few_rows(behind_lot, 500, on, few)
                wanted = [math.comb(on, new) * math.comb(500 - on, few - new) for new in range(few + 1)]
                self.assertEqual(found, wanted, (on, few))
                self.assertEqual(sum(found), math.comb(500, few))

    def test_it_is_a_new_list(self):
        self.assert_hands_off(behind_lot, 5, 2, 3)


class Side(Checks):
    def test_arguments(self):
        self.assertEqual(list(inspect.signature(side).parameters), ["bench", "on", "needed"])

    def test_all_benches_of_few(self):
        for bench in range(1, 9):
            for on, needed in itertools.product(range(bench + 1), range(bench // 2 + 1, bench + 1)):
                wanted = "friends" if on >= needed else "foes" if bench - on >= needed else "hung"
                self.assertEqual(side(bench, on, needed), wanted, (bench, on, needed))

    def test_just_at_the_edge(self):
        self.assertEqual([side(9, on, 7) for on in (1, 2, 3, 6, 7)], ["foes", "foes", "hung", "hung", "friends"])
        self.assertEqual([side(500, on, 251) for on in (249, 250, 251)], ["foes", "hung", "friends"])
        self.assertEqual([side(1, on, 1) for on in (0, 1)], ["foes", "friends"])


class Seated(Checks):
    def test_arguments(self):
        self.assertEqual(list(inspect.signature(seated).parameters), ["count", "friends", "seats", "who"])

    def test_all_small_councils(self):
        for count in range(1, 7):
            for friends, seats in itertools.product(range(count + 1), range(1, count + 1)):
                ours, others = [1] * friends, [0] * (count - friends)
                self.assertEqual(seated(count, friends, seats, "friends"), sum((ours + others)[:seats]))
                self.assertEqual(seated(count, friends, seats, "foes"), sum((others + ours)[:seats]))

    def test_a_side_that_does_not_reach(self):
        self.assertEqual(seated(10, 3, 5, "friends"), 3)
        self.assertEqual(seated(10, 7, 5, "foes"), 2)
        self.assertEqual(seated(500, 500, 60, "foes"), 60)
        self.assertEqual(seated(500, 0, 60, "friends"), 0)
        self.assertEqual(seated(500, 441, 60, "foes"), 1)
        self.assertEqual(seated(500, 440, 60, "foes"), 0)


class Behind(Checks):
    def test_arguments(self):
        self.assertEqual(list(inspect.signature(behind).parameters), ["count", "friends", "bench", "on", "step"])

    def test_all_rounds_of_small_councils(self):
        for count in range(1, 5):
            for bench, friends in itertools.product(range(1, count + 1), range(count + 1)):
                for on, step in itertools.product(range(bench + 1), rounds_that_fit(count, bench)):
                    sits = [(place, place < on) for place in range(bench)]
                    people, picks = council(count, friends), picks_of(count, bench, step)
                    new = [friends_on(next_bench(people, sits, step, places)) for places in picks]
                    given = (count, friends, bench, on, step)
                    self.assertEqual(behind(*given), tally(new, step[1]), given)

    def test_a_lot_asks_the_bench_alone(self):
        self.assertEqual(behind(9, 1, 5, 2, ("lot", 3)), [1, 6, 3, 0])

    def test_each_draw_of_a_vote_that_a_side_has_leads_to_its_seats(self):
        self.assertEqual(behind(6, 2, 3, 2, ("vote", 3, 2, "council")), [0, 0, 20, 0])
        self.assertEqual(behind(6, 2, 3, 1, ("vote", 3, 2, "council")), [20, 0, 0, 0])
        self.assertEqual(behind(6, 5, 3, 1, ("vote", 2, 2, "bench")), [0, 3, 0])
        self.assertEqual(behind(6, 5, 3, 1, ("vote", 3, 2, "stay")), [0, 0, 1, 0])
        self.assertEqual(behind(6, 5, 3, 2, ("vote", 3, 2, "stay")), [0, 0, 0, 1])

    def test_each_word_where_the_vote_hangs(self):
        self.assertEqual(behind(6, 2, 3, 2, ("vote", 2, 3, "council")), [6, 8, 1])
        self.assertEqual(behind(6, 2, 3, 2, ("vote", 2, 3, "bench")), [0, 2, 1])
        self.assertEqual(behind(6, 2, 3, 2, ("vote", 3, 3, "stay")), [0, 0, 1, 0])

    def test_large_rounds(self):
        for on, wanted in ((0, 0), (29, 0), (31, 60), (60, 60)):
            for word in ("council", "bench", "stay"):
                step = ("vote", 60, 31, word)
                found = in_few_rows(behind, 500, 400, 60, on, step)
                many = draws_row(500, [("lot", 60), step])[1]
                self.assertEqual(found, [many if new == wanted else 0 for new in range(61)])
        self.assertEqual(behind(500, 400, 60, 30, ("vote", 60, 31, "council")), behind_lot(500, 400, 60))
        self.assertEqual(behind(500, 400, 60, 30, ("vote", 59, 31, "bench")), behind_lot(60, 30, 59))

    def test_it_is_a_new_list(self):
        for step in (("lot", 2), ("vote", 2, 2, "council"), ("vote", 2, 3, "bench"), ("vote", 3, 3, "stay")):
            self.assert_hands_off(behind, 6, 2, 3, 2, step)


if __name__ == "__main__":
    unittest.main()
