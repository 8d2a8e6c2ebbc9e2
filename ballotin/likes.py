"""How a row stands for the friends, and how many friends it takes."""

from ballotin.chain import chance, friendly_many
from ballotin.errors import BadChance, BadCount
from ballotin.parts import less, lowest
from ballotin.rounds import draws, need_whole

NONE = (0, 1)
ALL = (1, 1)


def standing(count, friends, row):
    """Whether friends are sure of the head or shut out, or the row is open to them."""
    found = chance(count, friends, row)
    if found == ALL:
        return "sure"
    if found == NONE:
        return "shut"
    return "open"


def fewest(count, row, wish):
    """The least number of friends whose chance is no less than the wish."""
    need_whole(count, row)
    if less(wish, NONE) or less(ALL, wish):
        raise BadChance("a chance is from nought to one")
    low = 0
    high = count
    # A friend more never lowers the chance, so half of what is left can be left out at each step.
    while low < high:
        middle = (low + high) // 2
        if less(chance(count, middle, row), wish):
            low = middle + 1
        else:
            high = middle
    return low


def gain(count, friends, row):
    """By how much one friend more in the council raises the chance."""
    now = friendly_many(count, friends, row)
    if friends == count:
        raise BadCount("all are friends already")
    return lowest(friendly_many(count, friends + 1, row) - now, draws(count, row))
