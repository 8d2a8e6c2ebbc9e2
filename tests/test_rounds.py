import inspect
import itertools
import math
import random
import unittest

from ballotin.chain import chance
from ballotin.errors import BadCount, NoDraw
from ballotin.rounds import draws, draws_behind, draws_row, parted, put_together, shortened, sizes, whole
from helper import LOT_1, Checks, all_courses, council, picks_of, rows_that_fit, rounds_that_fit, some_row

# Each function with what is handed in behind count and row.
FITTING = [
    (sizes,), (whole,), (draws_row,), (draws,), (draws_behind,), (shortened,), (parted, 0), (put_together, [0]),
]
VENICE = [
    ("lot", 30), ("lot", 9), ("vote", 40, 7, "council"), ("lot", 12), ("vote", 25, 9, "council"), ("lot", 9),
    ("vote", 45, 7, "council"), ("lot", 11), ("vote", 41, 9, "council"), ("vote", 1, 25, "council"),
]


class Fitting(Checks):
    def assert_fits(self, count, row):
        self.assertEqual(sizes(count, row), [step[1] for step in row], (count, row))

    def test_arguments(self):
        for call, names in (
            (sizes, "count row"), (whole, "count row"), (draws_row, "count row"), (draws, "count row"),
            (shortened, "count row"), (parted, "count row number"), (put_together, "count row numbers"),
        ):
            self.assertEqual(list(inspect.signature(call).parameters), names.split())

    def test_every_round_of_small_councils(self):
        words = ("council", "bench", "stay", "Council", "")
        for count, sit in itertools.product(range(1, 5), range(1, 5)):
            if sit > count:
                continue
            good = rounds_that_fit(count, sit)
            every = [("lot", seats) for seats in range(-1, 7)]
            every += [("vote",) + rest for rest in itertools.product(range(-1, 7), range(-1, 7), words)]
            for step in every:
                row = [("lot", sit), step]
                if step in good:
                    self.assert_fits(count, row)
                else:
                    self.assert_bad_round(1, sizes, count, row)

    def test_no_rounds(self):
        for count in (1, 2, 500):
            self.assertEqual(sizes(count, []), [])

    def test_ends_of_a_lot(self):
        for count in (1, 2, 59, 60, 61, 500):
            most = min(count, 60)
            self.assert_fits(count, [("lot", 1)])
            self.assert_fits(count, [("lot", most)])
            for seats in (-10 ** 30, -1, 0, most + 1, 10 ** 9000):
                self.assert_bad_round(0, sizes, count, [("lot", seats)])

    def test_a_lot_draws_from_those_who_sit(self):
        self.assert_fits(500, [("lot", 7), ("lot", 7), ("lot", 3)])
        self.assert_bad_round(1, sizes, 500, [("lot", 7), ("lot", 8)])

    def test_ends_of_a_vote_s_seats(self):
        for count in (1, 2, 59, 60, 61, 500):
            most = min(count, 60)
            self.assert_fits(count, [("vote", 1, count, "council")])
            self.assert_fits(count, [("vote", most, count, "council")])
            for word in ("council", "bench", "stay"):
                for seats in (-10 ** 30, -1, 0, most + 1, 10 ** 9000):
                    self.assert_bad_round(0, sizes, count, [("vote", seats, count, word)])

    def test_a_vote_by_council_may_seat_more_than_sit(self):
        self.assert_fits(60, [("lot", 1), ("vote", 60, 1, "council")])
        self.assert_fits(500, [("lot", 2), ("vote", 60, 2, "council")])
        self.assert_bad_round(1, sizes, 59, [("lot", 1), ("vote", 60, 1, "council")])

    def test_ends_of_a_vote_s_voices(self):
        for sit in (1, 2, 3, 4, 59, 60):
            least = sit // 2 + 1
            for word in ("council", "bench", "stay"):
                for needed in (least, sit):
                    self.assert_fits(500, [("lot", sit), ("vote", sit, needed, word)])
                for needed in (-10 ** 30, -1, 0, least - 1, sit + 1, 500, 10 ** 9000):
                    self.assert_bad_round(1, sizes, 500, [("lot", sit), ("vote", sit, needed, word)])

    def test_voices_of_the_whole_council(self):
        for count, least in ((1, 1), (2, 2), (3, 2), (499, 250), (500, 251)):
            self.assert_fits(count, [("vote", 1, least, "council")])
            self.assert_fits(count, [("vote", 1, count, "bench")])
            self.assert_bad_round(0, sizes, count, [("vote", 1, least - 1, "council")])
            self.assert_bad_round(0, sizes, count, [("vote", 1, count + 1, "bench")])

    def test_ends_by_word(self):
        for sit in (1, 2, 59):
            for seats, good in ((sit - 1, "council bench"), (sit, "council bench stay"), (sit + 1, "council")):
                for word in ("council", "bench", "stay"):
                    row = [("lot", sit), ("vote", seats, sit, word)]
                    if seats > 0 and word in good.split():
                        self.assert_fits(500, row)
                    else:
                        self.assert_bad_round(1, sizes, 500, row)

    def test_stay_of_more_than_have_seats(self):
        self.assert_fits(60, [("vote", 60, 31, "stay")])
        self.assert_bad_round(0, sizes, 61, [("vote", 61, 31, "stay")])
        self.assert_bad_round(0, sizes, 61, [("vote", 60, 31, "stay")])

    def test_what_is_neither_a_lot_nor_a_vote(self):
        for step in (
            ("", 1), ("Lot", 1), ("lots", 1), ("vote", 1), ("council", 1), ("lot ", 1),
            ("", 1, 3, "council"), ("Vote", 1, 3, "council"), ("lot", 1, 3, "council"), ("votes", 1, 3, "bench"),
            ("vote", 1, 3, ""), ("vote", 1, 3, "Council"), ("vote", 1, 3, "benches"), ("vote", 1, 3, "lot"),
            ("vote", 3, 3, "STAY"), ("vote", 3, 3, "stay\n"),
        ):
            self.assert_bad_round(0, sizes, 3, [step])
            self.assert_bad_round(2, sizes, 500, [("lot", 4), ("lot", 3), step, LOT_1])

    def test_the_first_that_does_not_fit(self):
        for at in range(20):
            row = [("lot", 2)] * at + [("lot", 3)] + [("lot", 0)] * (19 - at)
            self.assert_bad_round(at, sizes, 2, row)

    def test_twenty_rounds_and_more(self):
        for rounds in (19, 20, 21, 25):
            self.assert_fits(500, [("lot", 60)] * rounds)
            self.assert_bad_round(rounds, sizes, 500, [("lot", 60)] * rounds + [("lot", 61)])

    def test_venice(self):
        self.assertEqual(sizes(480, VENICE), [30, 9, 40, 12, 25, 9, 45, 11, 41, 1])
        self.assertIs(whole(480, VENICE), True)


class Refused(Checks):
    def test_count(self):
        for call, *rest in FITTING:
            for count in (-10 ** 30, -1, 0, 501, 502, 10 ** 9000):
                self.assert_refused(BadCount, call, count, [LOT_1], *rest)
            for count in (1, 500):
                call(count, [LOT_1], *rest)

    def test_count_ahead_of_all_else(self):
        for call, *rest in FITTING:
            for count in (0, 501):
                for row in ([], [("lot", 0)], [("vote", 1, 0, "")]):
                    self.assert_refused(BadCount, call, count, row, *rest)
        self.assert_refused(BadCount, parted, 0, [("lot", 0)], -1)
        self.assert_refused(BadCount, put_together, 501, [("lot", 0)], [1, 2, 3])

    def test_rounds(self):
        for call, *rest in FITTING:
            self.assert_bad_round(0, call, 5, [("lot", 6)], *rest)
            self.assert_bad_round(1, call, 5, [("lot", 3), ("vote", 3, 1, "stay"), ("lot", 9)], *rest)

    def test_rounds_ahead_of_no_draw(self):
        for number in (-1, 0, 10 ** 9000):
            self.assert_bad_round(1, parted, 5, [LOT_1, ("lot", 2)], number)
        for numbers in ([], [-1], [0, 0, 0], [10 ** 9000, 0]):
            self.assert_bad_round(1, put_together, 5, [LOT_1, ("lot", 2)], numbers)


class Whole(Checks):
    def test_behind_rounds(self):
        for count in range(1, 4):
            for row in rows_that_fit(count, 2):
                wanted = (row[-1][1] if row else count) == 1
                self.assertIs(whole(count, row), wanted, (count, row))

    def test_behind_nothing(self):
        self.assertIs(whole(1, []), True)
        self.assertIs(whole(2, []), False)
        self.assertIs(whole(500, []), False)

    def test_one_in_the_middle_is_not_enough(self):
        self.assertIs(whole(5, [LOT_1, ("vote", 2, 1, "council")]), False)


class Draws(Checks):
    def test_small_councils(self):
        for count in range(1, 5):
            for row in rows_that_fit(count, 2):
                sat = [count] + [step[1] for step in row]
                wanted = [len(picks_of(count, sit, step)) for sit, step in zip(sat, row)]
                self.assertEqual(draws_row(count, row), wanted, (count, row))
                self.assertEqual(draws(count, row), math.prod(wanted), (count, row))

    def test_no_rounds(self):
        self.assertEqual(draws_row(7, []), [])
        self.assertEqual(draws_behind(7, []), [])
        self.assertEqual(draws(7, []), 1)

    def test_rows_of_draws_behind_each_round(self):
        for count in (1, 2, 3):
            for row in rows_that_fit(count, 3):
                each = draws_row(count, row)
                wanted = [math.prod(each[at:]) for at in range(1, len(row) + 1)]
                self.assertEqual(draws_behind(count, row), wanted, (count, row))
        each = draws_row(480, VENICE)
        self.assertEqual(draws_behind(480, VENICE), [math.prod(each[at:]) for at in range(1, 11)])

    def test_each_kind_in_a_large_council(self):
        row = [
            ("lot", 60), ("vote", 40, 31, "council"), ("vote", 30, 40, "bench"), ("vote", 30, 16, "stay"), ("lot", 12),
        ]
        wanted = [math.comb(500, 60), math.comb(500, 40), math.comb(40, 30), 1, math.comb(30, 12)]
        self.assertEqual(draws_row(500, row), wanted)
        self.assertEqual(draws(500, row), math.prod(wanted))

    def test_twenty_large_rounds(self):
        row = [("vote", 60, 251, "council")] + [("vote", 60, 60, "council")] * 19
        self.assertEqual(draws(500, row), math.comb(500, 60) ** 20)


class Numbers(Checks):
    def test_all_numbers_of_small_councils(self):
        for count in range(1, 4):
            for row in rows_that_fit(count, 3):
                every = list(itertools.product(*[range(many) for many in draws_row(count, row)]))
                self.assertEqual([tuple(parted(count, row, number)) for number in range(len(every))], every)
                self.assertEqual([put_together(count, row, list(one)) for one in every], list(range(len(every))))

    def test_by_hand(self):
        row = [("lot", 2), ("vote", 1, 2, "council"), ("vote", 1, 1, "stay"), LOT_1]
        self.assertEqual(draws_row(4, row), [6, 4, 1, 1])
        self.assertEqual(parted(4, row, 0), [0, 0, 0, 0])
        self.assertEqual(parted(4, row, 5), [1, 1, 0, 0])
        self.assertEqual(parted(4, row, 23), [5, 3, 0, 0])
        self.assertEqual(put_together(4, row, [5, 2, 0, 0]), 22)

    def test_no_rounds(self):
        self.assertEqual(parted(5, [], 0), [])
        self.assertEqual(put_together(5, [], []), 0)
        for number in (-1, 1, 10 ** 9000):
            self.assert_refused(NoDraw, parted, 5, [], number)
        self.assert_refused(NoDraw, put_together, 5, [], [0])

    def test_large_rows_there_and_back(self):
        source = random.Random(7)
        for rounds in (1, 5, 19, 20):
            row = some_row(source, 500, rounds)
            total = draws(500, row)
            for number in (0, 1 % total, total // 3, total // 2, total - 1, source.randrange(total)):
                numbers = parted(500, row, number)
                self.assertTrue(all(0 <= own < many for own, many in zip(numbers, draws_row(500, row))))
                self.assertEqual(put_together(500, row, numbers), number)

    def test_last_of_a_large_row(self):
        each = draws_row(480, VENICE)
        last = [many - 1 for many in each]
        self.assertEqual(put_together(480, VENICE, last), draws(480, VENICE) - 1)
        self.assertEqual(parted(480, VENICE, draws(480, VENICE) - 1), last)

    def test_no_row_of_draws_has_the_number(self):
        row = [("lot", 2), LOT_1]
        self.assertEqual(parted(3, row, 5), [2, 1])
        for number in (-10 ** 9000, -6, -1, 6, 7, 10 ** 9000):
            self.assert_refused(NoDraw, parted, 3, row, number)
        total = draws(480, VENICE)
        for number in (-1, total, total + 1):
            self.assert_refused(NoDraw, parted, 480, VENICE, number)

    def test_not_a_number_for_each_round(self):
        row = [("lot", 2), LOT_1]
        for numbers in ([], [0], [0, 0, 0], [5], [-1, 0, 0]):
            self.assert_refused(NoDraw, put_together, 3, row, numbers)

    def test_a_number_that_no_draw_has(self):
        row = [("lot", 2), LOT_1, ("vote", 1, 1, "stay")]
        self.assertEqual(put_together(3, row, [2, 1, 0]), 5)
        for numbers in ([-1, 0, 0], [3, 0, 0], [0, -1, 0], [0, 2, 0], [0, 0, -1], [0, 0, 1], [0, 0, 10 ** 9000]):
            self.assert_refused(NoDraw, put_together, 3, row, numbers)


def shortened_by_runs(count, row):
    """By the document's words: the runs of lots one by one."""
    found, sit = [], count
    for is_lot, run in itertools.groupby(row, key=lambda step: step[0] == "lot"):
        run = list(run)
        if not is_lot:
            found += run
        elif run[-1][1] != sit:
            found.append(run[-1])
        sit = run[-1][1]
    return found


class Shortened(Checks):
    def test_by_hand(self):
        vote = ("vote", 4, 2, "council")
        for count, row, wanted in (
            (5, [], []),
            (5, [("lot", 5)], []),
            (5, [("lot", 5), ("lot", 5)], []),
            (5, [("lot", 4)], [("lot", 4)]),
            (5, [("lot", 5), ("lot", 4)], [("lot", 4)]),
            (5, [("lot", 4), ("lot", 4)], [("lot", 4)]),
            (5, [("lot", 4), ("lot", 3), LOT_1, LOT_1], [LOT_1]),
            (1, [LOT_1, LOT_1], []),
            (5, [("lot", 3), vote, ("lot", 4)], [("lot", 3), vote]),
            (5, [("lot", 4), ("lot", 3), vote, ("lot", 4), ("lot", 3)], [("lot", 3), vote, ("lot", 3)]),
            (3, [("lot", 3), ("vote", 3, 2, "stay"), ("lot", 3), ("vote", 3, 3, "stay"), LOT_1],
             [("vote", 3, 2, "stay"), ("vote", 3, 3, "stay"), LOT_1]),
        ):
            self.assertEqual(shortened(count, row), wanted, (count, row))

    def test_all_rows_of_small_councils(self):
        for count in range(1, 4):
            for row in rows_that_fit(count, 3):
                self.assertEqual(shortened(count, row), shortened_by_runs(count, row), (count, row))

    def test_it_fits_still_and_the_chance_stays(self):
        source = random.Random(12)
        for count in (1, 2, 60, 61, 500):
            for rounds in (2, 10, 20):
                row = some_row(source, count, rounds)
                row = [step for step in row for _ in range(2 if step[0] == "lot" else 1)]
                short = shortened(count, row)
                self.assertEqual(short, shortened_by_runs(count, row))
                self.assertIs(whole(count, short), True)
                self.assertEqual(shortened(count, short), short)
                for friends in (0, count // 2, count):
                    self.assertEqual(chance(count, friends, short), chance(count, friends, row))

    def test_rows_need_not_be_whole(self):
        self.assertEqual(shortened(9, [("lot", 7), ("lot", 5)]), [("lot", 5)])


class Kept(Checks):
    def test_nothing_handed_in_is_changed_and_lists_are_new(self):
        row = [("lot", 3), ("lot", 2), ("vote", 2, 2, "bench"), ("vote", 3, 2, "council"), LOT_1]
        for call, *rest in ((sizes,), (whole,), (draws_row,), (draws,), (shortened,), (parted, 17)):
            self.assert_hands_off(call, 5, row, *rest)
        self.assert_hands_off(put_together, 5, row, [9, 1, 0, 4, 2])
        self.assert_hands_off(shortened, 5, [("vote", 1, 3, "council")])
        self.assertEqual(len(all_courses(council(5, 2), council(5, 2), row)), draws(5, row))

    def test_kinds(self):
        row = [("lot", 3), LOT_1]
        for call, *rest in ((sizes,), (draws_row,), (shortened,), (parted, 0)):
            self.assertIs(type(call(5, row, *rest)), list)
        for call, *rest in ((draws,), (put_together, [0, 0])):
            self.assertIs(type(call(5, row, *rest)), int)


if __name__ == "__main__":
    unittest.main()
