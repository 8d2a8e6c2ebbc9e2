import inspect
import itertools
import math
import random
import unittest
from fractions import Fraction

from ballotin.chain import chance, friendly_many, roads, settled, spans, worths
from ballotin.errors import BadCount, NotWhole
from ballotin.rounds import draws, draws_row
from helper import HEAVY, LOT_1, Checks, friend_counts, heads_from, in_few_rows, some_row, whole_rows

ALL = (roads, worths, friendly_many, chance, spans, settled)
MOST_ROWS = 3_000_000


def small_cases():
    """Each whole row of at most 3 rounds (2 in larger councils), with each number of friends."""
    for count, rounds in ((1, 3), (2, 3), (3, 3), (4, 2), (5, 2)):
        for row in whole_rows(count, rounds):
            for friends in range(count + 1):
                yield count, friends, row


def longer_cases():
    """Rows of more rounds, as long as their rows of draws can be gone through."""
    source = random.Random(41)
    for count in (2, 3, 4, 5, 6):
        for rounds in (3, 4, 5, 6):
            for row in [some_row(source, count, rounds) for _ in range(6)]:
                if draws(count, row) <= 3000:
                    yield count, source.randint(0, count), row


def cases():
    return itertools.chain(small_cases(), longer_cases())


def large_cases():
    source = random.Random(500)
    for count in (1, 2, 60, 61, 499, 500):
        for rounds in (1, 2, 7, 20):
            for friends in sorted({0, 1, count // 3, count // 2, count - 1, count}):
                yield count, friends, some_row(source, count, rounds)


def hypergeometric(many, on, few):
    total = math.comb(many, few)
    return [Fraction(math.comb(on, new) * math.comb(many - on, few - new), total) for new in range(few + 1)]


def chance_by_shares(count, friends, row):
    """The chance by the document's words, with shares of benches in place of numbers of draws."""
    sit, shares = count, {friends: Fraction(1)}
    for step in row:
        seats, new = step[1], dict.fromkeys(range(step[1] + 1), Fraction(0))
        for on, share in shares.items():
            hung = step[0] == "vote" and max(on, sit - on) < step[2]
            if step[0] == "lot" or hung and step[3] == "bench":
                leads = hypergeometric(sit, on, seats)
            elif hung and step[3] == "council":
                leads = hypergeometric(count, friends, seats)
            else:
                to = on if hung else min(friends, seats) if on > sit - on else max(0, seats - (count - friends))
                leads = [Fraction(int(one == to)) for one in range(seats + 1)]
            for to, part in enumerate(leads):
                new[to] += share * part
        sit, shares = seats, {on: share for on, share in new.items() if share}
    return shares.get(1, Fraction(0))


class Small(Checks):
    def test_roads_and_spans(self):
        for count, friends, row in cases():
            wanted_roads, wanted_spans = [], []
            for at, step in enumerate(row):
                seen = [course[-1] for course in friend_counts(count, friends, row[:at + 1])]
                wanted_roads.append([seen.count(on) for on in range(step[1] + 1)])
                wanted_spans.append((min(seen), max(seen)))
            self.assertEqual(roads(count, friends, row), wanted_roads, (count, friends, row))
            self.assertEqual(spans(count, friends, row), wanted_spans, (count, friends, row))

    def test_worths(self):
        for count, friends, row in cases():
            wanted = [
                [sum(heads_from(count, friends, step[1], on, row[at + 1:])) for on in range(step[1] + 1)]
                for at, step in enumerate(row)
            ]
            self.assertEqual(worths(count, friends, row), wanted, (count, friends, row))

    def test_chances(self):
        for count, friends, row in cases():
            heads = [course[-1] for course in friend_counts(count, friends, row)]
            self.assertEqual(friendly_many(count, friends, row), sum(heads), (count, friends, row))
            wanted = Fraction(sum(heads), len(heads))
            self.assertEqual(chance(count, friends, row), (wanted.numerator, wanted.denominator), (count, friends, row))

    def test_settled(self):
        for count, friends, row in cases():
            courses = friend_counts(count, friends, row)
            for over in range(len(row) + 1):
                heads_by_bench = {}
                for course in courses:
                    heads_by_bench.setdefault(course[over], set()).add(course[-1])
                if all(len(heads) == 1 for heads in heads_by_bench.values()):
                    break
            self.assertEqual(settled(count, friends, row), over, (count, friends, row))

    def test_longer_cases_are_there(self):
        self.assertGreater(len([row for count, friends, row in longer_cases() if len(row) > 3]), 20)


class ByHand(Checks):
    def test_a_lot_of_one(self):
        self.assertEqual(roads(3, 2, [LOT_1]), [[1, 2]])
        self.assertEqual(worths(3, 2, [LOT_1]), [[0, 1]])
        self.assertEqual(friendly_many(3, 2, [LOT_1]), 2)
        self.assertEqual(chance(3, 2, [LOT_1]), (2, 3))
        self.assertEqual(spans(3, 2, [LOT_1]), [(0, 1)])
        self.assertEqual(settled(3, 2, [LOT_1]), 1)

    def test_a_lot_and_a_vote(self):
        row = [("lot", 3), ("vote", 1, 2, "council")]
        self.assertEqual(roads(5, 2, row), [[1, 6, 3, 0], [35, 15]])
        self.assertEqual(worths(5, 2, row), [[0, 0, 5, 5], [0, 1]])
        self.assertEqual(chance(5, 2, row), (3, 10))
        self.assertEqual(spans(5, 2, row), [(0, 2), (0, 1)])
        self.assertEqual(settled(5, 2, row), 1)

    def test_a_vote_that_hangs(self):
        for word, worth, sealed in (("council", 2, 5), ("bench", 1, 2)):
            row = [("lot", 2), ("vote", 1, 2, word)]
            self.assertEqual(worths(5, 2, row)[0], [0, worth, sealed])
            self.assertEqual(friendly_many(5, 2, row), 6 * worth + sealed)
            self.assertEqual(settled(5, 2, row), 2)
        stay = [("lot", 2), ("vote", 2, 2, "stay"), LOT_1]
        self.assertEqual(roads(5, 2, stay), [[3, 6, 1], [3, 6, 1], [12, 8]])
        self.assertEqual(worths(5, 2, stay), [[0, 1, 2], [0, 1, 2], [0, 1]])
        self.assertEqual(chance(5, 2, stay), (2, 5))

    def test_worths_where_no_row_of_draws_leads(self):
        # Three friends on the bench are more than the council has; the two it has are seated.
        row = [("lot", 3), ("vote", 3, 2, "council"), LOT_1]
        self.assertEqual(worths(5, 2, row)[0], [0, 0, 20, 20])
        self.assertEqual(roads(5, 2, row)[0][3], 0)
        self.assertEqual(worths(5, 0, row)[0], [0, 0, 0, 0])

    def test_no_rounds(self):
        for friends in (0, 1):
            for call in (roads, worths, spans):
                self.assertEqual(call(1, friends, []), [])
            self.assertEqual(friendly_many(1, friends, []), friends)
            self.assertEqual(chance(1, friends, []), (friends, 1))
            self.assertEqual(settled(1, friends, []), 0)

    def test_settled_ahead_of_the_end(self):
        vote = ("vote", 3, 2, "council")
        self.assertEqual(settled(9, 0, [("lot", 3), LOT_1]), 0)
        self.assertEqual(settled(9, 9, [("lot", 3), LOT_1]), 0)
        self.assertEqual(settled(9, 4, [("lot", 3), vote, LOT_1, LOT_1]), 1)
        self.assertEqual(settled(9, 4, [("lot", 3), LOT_1, LOT_1]), 2)
        self.assertEqual(settled(9, 5, [("vote", 3, 5, "council"), LOT_1]), 0)
        self.assertEqual(settled(9, 2, [("lot", 3), vote, LOT_1]), 3)


class Large(Checks):
    def test_chances(self):
        for count, friends, row in large_cases():
            wanted = chance_by_shares(count, friends, row)
            self.assertEqual(chance(count, friends, row), (wanted.numerator, wanted.denominator), (count, friends, row))

    def test_roads_and_worths_agree(self):
        for count, friends, row in large_cases():
            each, so_far = draws_row(count, row), 1
            many = friendly_many(count, friends, row)
            to, on = roads(count, friends, row), worths(count, friends, row)
            self.assertEqual([len(here) for here in to], [step[1] + 1 for step in row])
            self.assertEqual([len(here) for here in on], [step[1] + 1 for step in row])
            for roads_here, worths_here, own in zip(to, on, each):
                so_far *= own
                self.assertEqual(sum(roads_here), so_far)
                self.assertEqual(sum(one * other for one, other in zip(roads_here, worths_here)), many)

    def test_spans_and_settled(self):
        for count, friends, row in large_cases():
            to, on = roads(count, friends, row), worths(count, friends, row)
            led_to = [[at for at, many in enumerate(here) if many] for here in to]
            self.assertEqual(spans(count, friends, row), [(min(here), max(here)) for here in led_to])
            over = settled(count, friends, row)
            self.assertEqual(over == 0, chance(count, friends, row) in ((0, 1), (1, 1)))
            for at in range(len(row)):
                later = math.prod(draws_row(count, row)[at + 1:])
                clear = all(on[at][friends_on] in (0, later) for friends_on in led_to[at])
                self.assertEqual(clear, at + 1 >= over, (count, friends, row, at))

    def test_lots_alone_leave_the_share_of_friends(self):
        row = [("lot", seats) for seats in range(60, 41, -1)] + [LOT_1]
        for friends in (0, 1, 7, 250, 499, 500):
            wanted = Fraction(friends, 500)
            self.assertEqual(chance(500, friends, row), (wanted.numerator, wanted.denominator))

    def test_most_rounds_with_most_to_reckon(self):
        for call in ALL:
            in_few_rows(call, 500, 250, HEAVY, most=MOST_ROWS)
        self.assertEqual(chance(500, 250, HEAVY), (1, 2))

    def test_more_rounds_than_twenty(self):
        row = [("lot", 60)] * 24 + [LOT_1]
        for call in ALL:
            call(500, 250, row)
        self.assertEqual(chance(500, 250, row), (1, 2))


class Refused(Checks):
    def test_arguments(self):
        for call in ALL:
            self.assertEqual(list(inspect.signature(call).parameters), ["count", "friends", "row"])

    def test_count(self):
        for call in ALL:
            for count in (-10 ** 9000, -1, 0, 501, 10 ** 9000):
                for row in ([], [LOT_1], [("lot", 0)], [("lot", 2)]):
                    for friends in (-1, 0, 1, 10 ** 9000):
                        self.assert_refused(BadCount, call, count, friends, row)
            for count in (1, 500):
                call(count, 1, [LOT_1])

    def test_rounds_ahead_of_not_whole_and_of_friends(self):
        for call in ALL:
            for friends in (-1, 0, 5, 6):
                self.assert_bad_round(0, call, 5, friends, [("lot", 6)])
                self.assert_bad_round(1, call, 5, friends, [("lot", 3), ("lot", 4)])
                self.assert_bad_round(2, call, 5, friends, [("lot", 3), LOT_1, ("vote", 1, 2, "council"), LOT_1])

    def test_not_whole_ahead_of_friends(self):
        for call in ALL:
            for friends in (-1, 0, 3, 6, 10 ** 9000):
                self.assert_refused(NotWhole, call, 5, friends, [])
                self.assert_refused(NotWhole, call, 5, friends, [("lot", 2)])
                self.assert_refused(NotWhole, call, 5, friends, [LOT_1, ("vote", 2, 1, "council")])

    def test_friends(self):
        for call in ALL:
            for count, row in ((1, []), (1, [LOT_1]), (5, [LOT_1]), (500, [LOT_1])):
                for friends in (-10 ** 9000, -1, count + 1, 10 ** 9000):
                    self.assert_refused(BadCount, call, count, friends, row)
                for friends in (0, count):
                    call(count, friends, row)


class Kept(Checks):
    def test_nothing_handed_in_is_changed_and_lists_are_new(self):
        for call in ALL:
            self.assert_hands_off(call, 5, 2, [("lot", 3), ("vote", 2, 3, "bench"), ("vote", 2, 2, "stay"), LOT_1])
            self.assert_hands_off(call, 1, 1, [])

    def test_kinds(self):
        row = [("lot", 3), LOT_1]
        for call in (roads, worths):
            self.assertEqual([type(here) for here in call(5, 2, row)], [list, list])
        self.assertEqual([type(here) for here in spans(5, 2, row)], [tuple, tuple])
        self.assertIs(type(chance(5, 2, row)), tuple)
        for call in (friendly_many, settled):
            self.assertIs(type(call(5, 2, row)), int)
            self.assertIs(type(call(1, 1, [])), int)


if __name__ == "__main__":
    unittest.main()
