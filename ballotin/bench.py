"""What a single round does to the friends on a bench."""

from ballotin.rounds import round_draws


def ways_up_to(many, few):
    """How many picks of 0, of 1 and so on up to few out of many there are."""
    found = [1]
    for taken in range(few):
        # Past many a nought is multiplied on, so what can't be picked has no ways.
        found.append(found[-1] * (many - taken) // (taken + 1))
    return found


def behind_lot(bench, on, few):
    """For 0 to few friends: how many picks of few out of the bench have so many friends."""
    friendly = ways_up_to(on, few)
    others = ways_up_to(bench - on, few)
    return [one * other for one, other in zip(friendly, others[::-1])]


def side(bench, on, needed):
    """Which side of the bench has as many voices as needed."""
    if on >= needed:
        return "friends"
    if bench - on >= needed:
        return "foes"
    return "hung"


def seated(count, friends, seats, who):
    """How many friends sit where the side who seats so many."""
    if who == "friends":
        return min(friends, seats)
    return seats - min(count - friends, seats)


def all_lead_to(seats, on, many):
    """For 0 to seats friends: how many draws lead there where all of them lead to the same."""
    found = [0] * (seats + 1)
    found[on] = many
    return found


def behind(count, friends, bench, on, step):
    """For 0 to n friends: how many draws of the round lead to so many on the new bench."""
    seats = step[1]
    if step[0] == "lot":
        return behind_lot(bench, on, seats)
    who = side(bench, on, step[2])
    if who != "hung":
        # The sealed draw stays shut, but it was made, so each of its picks counts.
        return all_lead_to(seats, seated(count, friends, seats, who), round_draws(count, bench, step))
    if step[3] == "council":
        return behind_lot(count, friends, seats)
    if step[3] == "bench":
        return behind_lot(bench, on, seats)
    return all_lead_to(seats, on, 1)
