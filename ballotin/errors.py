"""The refusals of the program, one class for each."""


class BallotError(ValueError):
    """Any refusal."""


class BadCount(BallotError):
    """A council can't have so many people, or so many friends among them."""


class BadPick(BallotError):
    """So many can't be picked, or the places are no pick."""


class NoDraw(BallotError):
    """No draw has the number."""


class NotWhole(BallotError):
    """Behind the row not just one sits."""


class BadChance(BallotError):
    """A chance is below nought or above one."""


class BadName(BallotError):
    """A name is not of 1 to 8 small letters."""


class Taken(BallotError):
    """The name stands already."""


class Full(BallotError):
    """No more find a place."""


class NoPerson(BallotError):
    """Nobody of that name is there."""


class NoLeague(BallotError):
    """No league has the name."""


class NoRow(BallotError):
    """No row has the name."""


class NoSitting(BallotError):
    """No sitting has the name."""


class NotDue(BallotError):
    """Something else is due in the sitting."""


class NoHead(BallotError):
    """The sitting has made no head yet."""


class NothingLeft(BallotError):
    """No deed is left to take back or to do again."""


class BadText(BallotError):
    """The text is not one that a house is written as."""


class BadRound(BallotError):
    """A round doesn't fit; `at` is its number in the row, from 0."""

    def __init__(self, at):
        BallotError.__init__(self, f"round {at} of the row does not fit")
        self.at = at
