"""What several test files need: refusals, a bound on the rows of code run, councils gone through, houses."""

import copy
import itertools
import random
import sys
import unittest

from ballotin.errors import BadRound, BallotError, NothingLeft
from ballotin.house import House

# Far more rows than a walk over the places needs, far fewer than one over the picks would.
MOST_ROWS = 100_000
LOT_1 = ("lot", 1)
# A row of the most rounds with most to reckon: each vote may hang and draws from the whole council.
HEAVY = [("vote", 60, 500, "council")] + [("vote", 60, 60, "council")] * 18 + [LOT_1]


def in_few_rows(call, *given, most=MOST_ROWS):
    """Calls with a bound on the rows of code that are run, so that a walk over all picks fails and doesn't hang."""
    rows = 0

    def watch(frame, event, arg):
        nonlocal rows
        if event == "line":
            rows += 1
            if rows > most:
                raise AssertionError("too many rows of code are run")
        return watch

    before = sys.gettrace()
    sys.settrace(watch)
    try:
        return call(*given)
    finally:
        sys.settrace(before)


class Checks(unittest.TestCase):
    def assert_refused(self, wanted, call, *given):
        """Refused by just this class; tells the error, for its fields."""
        with self.assertRaises(BallotError, msg=(call.__name__, given)) as caught:
            in_few_rows(call, *given)
        self.assertIs(type(caught.exception), wanted, (call.__name__, given))
        self.assertIsInstance(caught.exception, ValueError)
        return caught.exception

    def assert_bad_round(self, at, call, *given):
        """Refused with BadRound, whose field tells the round."""
        found = self.assert_refused(BadRound, call, *given)
        self.assertEqual(found.at, at, (call.__name__, given))
        self.assertIs(type(found.at), int)

    def assert_hands_off(self, call, *given):
        """What is handed in stays as it was, and what is told is new each time."""
        before = copy.deepcopy(given)
        first = call(*given)
        self.assertEqual(given, before)
        wanted = copy.deepcopy(first)
        if isinstance(first, list):
            for inner in first:
                if isinstance(inner, list):
                    inner.append("spoilt")
            first.append("spoilt")
        self.assertEqual(given, before)
        self.assertEqual(call(*given), wanted)


def roll_of(count):
    """So many names that may stand in a house; their order on the roll is not that of texts."""
    return ["n" + "zyxwvuts"[place % 8] + "abcdefghij"[place // 8] for place in range(count)]


def rounds_that_fit(count, sit):
    """All rounds that fit, by the document's words, for small councils."""
    found = [("lot", seats) for seats in range(1, sit + 1)]
    for seats in range(1, count + 1):
        for needed in range(sit // 2 + 1, sit + 1):
            found.append(("vote", seats, needed, "council"))
            if seats <= sit:
                found.append(("vote", seats, needed, "bench"))
            if seats == sit:
                found.append(("vote", seats, needed, "stay"))
    return found


def rows_that_fit(count, most):
    """All rows that fit and have at most so many rounds."""
    found = level = [[]]
    for _ in range(most):
        level = [row + [step] for row in level for step in rounds_that_fit(count, row[-1][1] if row else count)]
        found = found + level
    return found


def whole_rows(count, most):
    """All whole rows that have at most so many rounds."""
    return [row for row in rows_that_fit(count, most) if (row[-1][1] if row else count) == 1]


def some_row(chance_source, count, rounds):
    """A whole row of so many rounds (one at least), made by a source of chance; counts up to 500."""
    row, sit = [], count
    for left in range(rounds, 0, -1):
        seats = chance_source.randint(1, min(60, count)) if left > 1 else 1
        needed = chance_source.randint(sit // 2 + 1, sit)
        choices = [("vote", seats, needed, "council")]
        if seats <= sit:
            choices += [("vote", seats, needed, "bench"), ("lot", seats)]
        if sit <= 60 and (left > 1 or sit == 1):
            choices.append(("vote", sit, needed, "stay"))
        row.append(chance_source.choice(choices))
        sit = row[-1][1]
    return row


def picks_of(count, sit, step):
    """All draws of a round, in their order: picks of places, or the one of a vote by stay."""
    if step[0] == "vote" and step[3] == "stay":
        return [()]
    many = count if step[0] == "vote" and step[3] == "council" else sit
    return list(itertools.combinations(range(many), step[1]))


def next_bench(people, bench, step, places):
    """The bench behind a round, by the draw of these places; a person is a pair of a place and friend or not."""
    if step[0] == "lot":
        return [bench[place] for place in places]
    _, seats, needed, word = step
    ours = [one for one in people if one[1]]
    others = [one for one in people if not one[1]]
    voices = friends_on(bench)
    if voices >= needed:
        return sorted((ours + others)[:seats])
    if len(bench) - voices >= needed:
        return sorted((others + ours)[:seats])
    if word == "stay":
        return bench
    return [(people if word == "council" else bench)[place] for place in places]


def friends_on(bench):
    return len([one for one in bench if one[1]])


def council(count, friends):
    """Which of the people are friends must not matter for numbers, so here it is the last ones."""
    return [(place, place >= count - friends) for place in range(count)]


def all_courses(people, bench, row):
    """For each row of draws, by rising number: the list of the benches, the one at the start first."""
    each, sit = [], len(bench)
    for step in row:
        each.append(picks_of(len(people), sit, step))
        sit = step[1]
    found = []
    for drawn in itertools.product(*each):
        course = [bench]
        for step, places in zip(row, drawn):
            course.append(next_bench(people, course[-1], step, places))
        found.append(course)
    return found


def friend_counts(count, friends, row):
    """For each row of draws, by rising number: how many friends sit ahead of the first round and behind each."""
    people = council(count, friends)
    return [[friends_on(bench) for bench in course] for course in all_courses(people, people, row)]


def heads_from(count, friends, sit, on, row):
    """For each row of draws of the rounds left to a bench of sit with on friends: 1 where a friend is the head."""
    # The bench may have more friends than the council: it is reckoned so all the same.
    bench = [(place, place >= sit - on) for place in range(sit)]
    return [friends_on(course[-1]) for course in all_courses(council(count, friends), bench, row)]


def house_of(folk, friends, row):
    """A house with this roll, in which the league `ours` has these friends, and the row `way`."""
    house = House()
    for name in folk:
        house.enroll(name, "good" if name in friends else "ill")
    house.league("ours", ["good"])
    house.lay("way", row)
    return house


def do(house, deed):
    """Does a deed as `deeds` tells it."""
    given = [list(thing) if isinstance(thing, tuple) else thing for thing in deed[1:]]
    return getattr(house, deed[0])(*given)


def done_again(house):
    """All that is there to do again, as the house tells it; it is done."""
    found = []
    while True:
        try:
            found.append(house.redo())
        except NothingLeft:
            return found


def sitting_seen(house, name):
    """All that a house tells of a sitting."""
    made = house.head(name) if house.due(name) == "done" else None
    calls = (house.due, house.bench, house.waiting, house.drawn, house.story, house.chance)
    return [call(name) for call in calls] + [made]


def stands(house):
    """All that a house tells of how it stands."""
    return {
        "people": house.people(),
        "leagues": [(name, house.clans_of(name), house.friends(name)) for name in house.leagues()],
        "rows": [(name, house.row(name)) for name in house.rows()],
        "sittings": [(name, sitting_seen(house, name)) for name in house.sittings()],
        "deeds": house.deeds(),
    }


def seen(house):
    """How a house stands, and what is there to do again."""
    return stands(house), done_again(house.twin())


def some_deed(source, house):
    """A deed made by a source of chance; some are refused."""
    letter = source.choice("abcdefgh")
    clan = source.choice(["red", "blue", "gray"])
    people = [name for name, own in house.people()]
    count = max(len(people), 1)
    sittings = house.sittings() + [letter]
    sitting = source.choice(sittings)
    waiting = house.waiting(sitting) if sitting in house.sittings() else []
    return source.choice([
        ("enroll", letter, clan), ("enroll", letter, clan), ("strike", letter), ("move", letter, clan),
        ("league", letter, tuple(source.choices(["red", "blue", "gray"], k=source.randint(0, 3)))),
        ("dissolve", letter), ("lay", letter, tuple(some_row(source, count, source.randint(1, 3)))), ("drop", letter),
        ("begin", letter, source.choice(house.rows() + ["x"]), source.choice(house.leagues() + ["x"])),
        ("begin", letter, source.choice(house.rows() + ["x"]), source.choice(house.leagues() + ["x"])),
        ("draw", sitting, source.choice(waiting + [letter])), ("draw", sitting, source.choice(waiting + [letter])),
        ("draw", sitting, source.choice(waiting + [letter])), ("poll", sitting), ("shut", letter),
    ])


def some_life(seed, many):
    """A house to which so many deeds were done, and how it stood ahead of each that counted and at the end."""
    source, house = random.Random(seed), House()
    stood = [stands(house)]
    for _ in range(many):
        try:
            do(house, some_deed(source, house))
        except BallotError:
            if stands(house) != stood[-1]:
                raise AssertionError("a refused deed changed something")
        else:
            stood.append(stands(house))
    return house, stood
