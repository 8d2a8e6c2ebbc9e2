"""Rows of rounds: which fit, how many sit behind each round, and how rows of draws are numbered."""

from ballotin.errors import BadCount, BadRound, NoDraw, NotWhole
from ballotin.picks import ways

MOST_PEOPLE = 500
MOST_SEATS = 60


def fits_vote(count, sit, seats, needed, word):
    """True where a vote with good seats can be gone through by those who sit."""
    if seats > count or needed * 2 <= sit or needed > sit:
        return False
    if word == "bench":
        return seats <= sit
    if word == "stay":
        return seats == sit
    return word == "council"


def fits(count, sit, step):
    """True where the round can be gone through by a bench of so many in a council of so many."""
    if step[1] < 1 or step[1] > MOST_SEATS:
        return False
    if step[0] == "lot" and len(step) == 2:
        return step[1] <= sit
    if step[0] == "vote" and len(step) == 4:
        return fits_vote(count, sit, step[1], step[2], step[3])
    return False


def sizes(count, row):
    """How many sit behind each round."""
    # An error's words bear no number: Python refuses to write out a very long one.
    if count < 1 or count > MOST_PEOPLE:
        raise BadCount("a council has 1 to 500 people")
    sit = count
    found = []
    for at, step in enumerate(row):
        if not fits(count, sit, step):
            raise BadRound(at)
        sit = step[1]
        found.append(sit)
    return found


def sizes_ahead(count, row):
    """How many sit ahead of each round, and at the end how many sit behind the last one."""
    return [count] + sizes(count, row)


def whole(count, row):
    """True where just one sits behind the row."""
    return sizes_ahead(count, row)[-1] == 1


def need_whole(count, row):
    """Refuses a count or a row that can't make a head."""
    if not whole(count, row):
        raise NotWhole("behind the row not just one sits")


def need_friends(count, friends, row):
    """Refuses what need_whole does, and then friends that can't be in the council."""
    need_whole(count, row)
    if friends < 0 or friends > count:
        raise BadCount("friends are from none to all of the council")


def round_draws(count, sit, step):
    """How many draws a round that fits has."""
    if step[0] == "lot" or step[3] == "bench":
        return ways(sit, step[1])
    if step[3] == "council":
        return ways(count, step[1])
    return 1


def draws_row(count, row):
    """How many draws each round has."""
    return [round_draws(count, sit, step) for step, sit in zip(row, sizes_ahead(count, row))]


def draws(count, row):
    """How many rows of draws there are."""
    found = 1
    for many in draws_row(count, row):
        found *= many
    return found


def draws_behind(count, row):
    """Behind each round: how many rows of draws the later rounds have."""
    found = []
    many = 1
    for own in draws_row(count, row)[::-1]:
        found.append(many)
        many *= own
    return found[::-1]


def parted(count, row, number):
    """The numbers of the single draws in the row of draws that has the number."""
    found = []
    for many in draws_row(count, row)[::-1]:
        number, own = divmod(number, many)
        found.append(own)
    # What is left is the number parted by all rows of draws: nought just where one of them has it.
    if number != 0:
        raise NoDraw("no row of draws has the number")
    return found[::-1]


def put_together(count, row, numbers):
    """The number of the row of draws whose single draws have the numbers."""
    each = draws_row(count, row)
    if len(numbers) != len(each):
        raise NoDraw("there is not a number for each round")
    found = 0
    for own, many in zip(numbers, each):
        if own < 0 or own >= many:
            raise NoDraw("no draw of the round has the number")
        found = found * many + own
    return found


def shortened(count, row):
    """The row with lots behind one another made into one, and without lots that leave nobody out."""
    sit = sizes_ahead(count, row)[0]
    found = []
    for at, step in enumerate(row):
        if step[0] == "vote":
            found.append(step)
            sit = step[1]
        elif at + 1 == len(row) or row[at + 1][0] == "vote":
            # Only votes give sit anew, so it is still told of the bench ahead of the first of these lots.
            if step[1] != sit:
                found.append(step)
    return found
