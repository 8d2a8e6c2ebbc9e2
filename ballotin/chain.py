"""What a whole row of rounds does: roads, worths, and the chance that a friend is made the head."""

from ballotin.bench import behind
from ballotin.parts import lowest
from ballotin.rounds import draws, draws_behind, need_friends, sizes_ahead


def roads_on(count, friends, roads_here, step):
    """The roads behind a round, from the roads to the bench ahead of it."""
    sit = len(roads_here) - 1
    found = [0] * (step[1] + 1)
    for on, many in enumerate(roads_here):
        if many:
            for to, leading in enumerate(behind(count, friends, sit, on, step)):
                found[to] += many * leading
    return found


def roads(count, friends, row):
    """Behind each round, for each number of friends: how many rows of draws so far lead there."""
    need_friends(count, friends, row)
    here = [0] * (count + 1)
    here[friends] = 1
    found = []
    for step in row:
        here = roads_on(count, friends, here, step)
        found.append(here)
    return found


def worths_ahead(count, friends, sit, step, later):
    """The worths ahead of a round, from the worths behind it."""
    found = []
    for on in range(sit + 1):
        leading = behind(count, friends, sit, on, step)
        found.append(sum([many * worth for many, worth in zip(leading, later)]))
    return found


def worths(count, friends, row):
    """Behind each round, for each number of friends: how many rows of later draws make a friend the head."""
    need_friends(count, friends, row)
    if not row:
        return []
    sat = sizes_ahead(count, row)
    found = [[0, 1]]
    for at in range(len(row) - 1, 0, -1):
        found.append(worths_ahead(count, friends, sat[at], row[at], found[-1]))
    return found[::-1]


def friendly_many(count, friends, row):
    """How many rows of draws make a friend the head."""
    found = roads(count, friends, row)
    if not found:
        # Without rounds the only one of the council is the head.
        return friends
    return found[-1][1]


def chance(count, friends, row):
    """The share of the rows of draws that make a friend the head."""
    return lowest(friendly_many(count, friends, row), draws(count, row))


def span(roads_here):
    """The least and the greatest number of friends that some row of draws leads to."""
    led_to = [on for on, many in enumerate(roads_here) if many]
    return (led_to[0], led_to[-1])


def spans(count, friends, row):
    """The span behind each round."""
    return [span(here) for here in roads(count, friends, row)]


def is_settled(roads_here, worths_here, later):
    """True where each bench that is led to makes a friend the head by all later rows of draws, or by none."""
    return all([worth in (0, later) for many, worth in zip(roads_here, worths_here) if many])


def settled(count, friends, row):
    """Behind how many rounds, whatever was drawn, nothing later changes whose the head is."""
    reached = [[1]] + roads(count, friends, row)
    worthy = [[friendly_many(count, friends, row)]] + worths(count, friends, row)
    later = [draws(count, row)] + draws_behind(count, row)
    over = 0
    # Behind the last round every bench is settled, so the walk ends there at the latest.
    while not is_settled(reached[over], worthy[over], later[over]):
        over += 1
    return over
