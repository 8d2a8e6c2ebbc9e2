"""Councils by names: benches and heads by rows of draws, and good and ill rows of draws by numbers.

People are reckoned with by their places on the roll; marks tell for each place whether a friend stands there.
"""

from ballotin.bench import behind_lot, side
from ballotin.chain import friendly_many, worths
from ballotin.errors import NoDraw
from ballotin.picks import number_of, pick
from ballotin.rounds import draws, draws_behind, draws_row, need_whole, parted


def marks_of(folk, friends):
    """For each place of the roll: True where a friend stands there."""
    return [name in friends for name in folk]


def friends_among(marks, places):
    """How many friends stand at these places."""
    return len([place for place in places if marks[place]])


def seated_by(marks, seats, who):
    """The bench that a side seats: its own first ones, and where they don't reach, the first others."""
    ours = who == "friends"
    own = [place for place, friend in enumerate(marks) if friend == ours]
    others = [place for place, friend in enumerate(marks) if friend != ours]
    return sorted((own + others)[:seats])


def bench_undrawn(marks, bench, step):
    """The bench behind a round that needs no draw; None where a draw makes it."""
    if step[0] == "lot":
        return None
    who = side(len(bench), friends_among(marks, bench), step[2])
    if who != "hung":
        return seated_by(marks, step[1], who)
    if step[3] == "stay":
        return list(bench)
    return None


def drawn_out_of(marks, bench, step):
    """The places out of which a round draws, where it does."""
    if step[0] == "vote" and step[3] == "council":
        return list(range(len(marks)))
    return list(bench)


def bench_behind(marks, bench, step, own):
    """The bench behind a round, by its draw of that number."""
    found = bench_undrawn(marks, bench, step)
    if found is not None:
        return found
    pool = drawn_out_of(marks, bench, step)
    return [pool[place] for place in pick(len(pool), step[1], own)]


def benches(folk, friends, row, number):
    """The benches behind each round, by the row of draws of that number."""
    need_whole(len(folk), row)
    marks = marks_of(folk, friends)
    bench = list(range(len(folk)))
    found = []
    for step, own in zip(row, parted(len(folk), row, number)):
        bench = bench_behind(marks, bench, step, own)
        found.append([folk[place] for place in bench])
    return found


def head(folk, friends, row, number):
    """Who is made the head by the row of draws of that number."""
    # Without rounds the only one of the roll is the head.
    course = [list(folk)] + benches(folk, friends, row, number)
    return course[-1][0]


def weight(left, few, had, weights):
    """The sum of the weights of all picks of few out of those left, where had friends were picked already."""
    found = 0
    for more, many in enumerate(behind_lot(len(left), left.count(True), few)):
        found += many * weights[had + more]
    return found


def pick_within(marks, few, weights, k):
    """The pick within which k falls where each pick takes its weight in turn, and how far k is within it.

    A pick's weight is told by how many friends it has.
    """
    places = []
    had = 0
    for place, friend in enumerate(marks):
        if len(places) < few:
            taking = had + 1 if friend else had
            having = weight(marks[place + 1:], few - len(places) - 1, taking, weights)
            if k < having:
                places.append(place)
                had = taking
            else:
                k -= having
    return (tuple(places), k)


def weight_ahead(marks, places, weights):
    """The sum of the weights of all picks that stand ahead of this one."""
    found = 0
    had = 0
    picked = 0
    for place, friend in enumerate(marks):
        if picked < len(places):
            taking = had + 1 if friend else had
            if places[picked] == place:
                picked += 1
                had = taking
            else:
                # All picks that have this place stand ahead of the one that goes past it.
                found += weight(marks[place + 1:], len(places) - picked - 1, taking, weights)
    return found


def good_or_ill(count, friends, row, good):
    """Behind each round, for each number of friends: how many rows of later draws are good, or ill."""
    found = worths(count, friends, row)
    if good:
        return found
    return [[many - worth for worth in here] for here, many in zip(found, draws_behind(count, row))]


def need_one(marks, row, k, good):
    """Refuses a number that none of the good rows of draws, or of the ill ones, has."""
    many = friendly_many(len(marks), marks.count(True), row)
    if not good:
        many = draws(len(marks), row) - many
    if k < 0 or k >= many:
        raise NoDraw("no such row of draws has the number")


def number_among_all(folk, friends, row, k, good):
    """The number of the row of draws that is number k among the good ones, or among the ill ones."""
    marks = marks_of(folk, friends)
    need_one(marks, row, k, good)
    bench = list(range(len(folk)))
    number = 0
    later = good_or_ill(len(folk), marks.count(True), row, good)
    for step, many, weights in zip(row, draws_row(len(folk), row), later):
        undrawn = bench_undrawn(marks, bench, step)
        if undrawn is None:
            pool = drawn_out_of(marks, bench, step)
            places, k = pick_within([marks[place] for place in pool], step[1], weights, k)
            own = number_of(len(pool), places)
            bench = [pool[place] for place in places]
        else:
            # Whatever the sealed draw is, the bench is the same, so each draw has equally many.
            own, k = divmod(k, weights[friends_among(marks, undrawn)])
            bench = undrawn
        number = number * many + own
    return number


def friendly(folk, friends, row, k):
    """The number of the good row of draws number k."""
    return number_among_all(folk, friends, row, k, True)


def unfriendly(folk, friends, row, k):
    """The number of the ill row of draws number k."""
    return number_among_all(folk, friends, row, k, False)


def place_of(folk, friends, row, number):
    """Whether the row of draws of that number is a good one, and its number among the good or the ill ones."""
    marks = marks_of(folk, friends)
    bench = list(range(len(folk)))
    ahead = 0
    later = worths(len(folk), marks.count(True), row)
    for step, own, weights in zip(row, parted(len(folk), row, number), later):
        undrawn = bench_undrawn(marks, bench, step)
        if undrawn is None:
            pool = drawn_out_of(marks, bench, step)
            places = pick(len(pool), step[1], own)
            ahead += weight_ahead([marks[place] for place in pool], places, weights)
            bench = [pool[place] for place in places]
        else:
            ahead += own * weights[friends_among(marks, undrawn)]
            bench = undrawn
    if marks[bench[0]]:
        return (True, ahead)
    # Of all that stand ahead of it those that aren't good are ill.
    return (False, number - ahead)
