"""Picks: rising tuples of places, numbered from 0 in the order of tuples."""

from ballotin.errors import BadPick, NoDraw


def ways(many, few):
    """How many picks of few out of many there are."""
    if few < 0 or few > many:
        return 0
    found = 1
    for at in range(min(few, many - few)):
        # The division is exact: behind each step stands the ways of at + 1 out of many.
        found = found * (many - at) // (at + 1)
    return found


def with_first(total, many, few):
    """How many of all picks of few out of many, which are total, have the first place."""
    # Each place stands in equally many picks, so the first one's share is few out of many.
    return total * few // many


def pick(many, few, number):
    """The pick of few out of many that has the number."""
    # An error's words bear no number: Python refuses to write out a very long one.
    if few < 0 or few > many:
        raise BadPick("so few can't be picked out of so many")
    total = ways(many, few)
    if number < 0 or number >= total:
        raise NoDraw("no pick has the number")
    places = []
    for place in range(many):
        having = with_first(total, many - place, few - len(places))
        if number < having:
            places.append(place)
            total = having
        else:
            number -= having
            total -= having
    return tuple(places)


def is_pick(many, places):
    """True where the places rise and each is from 0 to many less 1."""
    last = -1
    for place in places:
        if place <= last or place >= many:
            return False
        last = place
    return True


def number_of(many, places):
    """The number of a pick out of many."""
    if not is_pick(many, places):
        raise BadPick("the places are no pick out of so many")
    few = len(places)
    total = ways(many, few)
    number = 0
    found = 0
    for place in range(many):
        having = with_first(total, many - place, few - found)
        if found < few and places[found] == place:
            found += 1
            total = having
        else:
            # All picks that have this place stand ahead of the one that goes past it.
            number += having
            total -= having
    return number
