"""Minutes: a house written as the deeds that count, and read back."""

from ballotin.errors import BadText, BallotError
from ballotin.house import House

FIGURES = "0123456789"
# No number of a round that may be laid has more figures.
MOST_FIGURES = 3


def words_of(deed):
    """The words by which a deed is written."""
    if deed[0] == "league":
        return [deed[0], deed[1]] + list(deed[2])
    if deed[0] == "lay":
        words = [deed[0], deed[1]]
        for step in deed[2]:
            words.extend([str(thing) for thing in step])
        return words
    return list(deed)


def written(house):
    """The text of a house: a line for each deed that counts."""
    return "\n".join([" ".join(words_of(deed)) for deed in house.deeds()])


def number_in(word):
    """The number that a word of figures tells."""
    # Python itself would read more than figures, and refuses to read very many of them.
    if len(word) < 1 or len(word) > MOST_FIGURES or word[0] == "0":
        raise BadText("a number has needless figures")
    if not all([sign in FIGURES for sign in word]):
        raise BadText("a number is written by figures")
    return int(word)


def rounds_in(words):
    """The rounds that the words of a row tell."""
    row = []
    at = 0
    while at < len(words):
        if words[at] == "lot" and at + 2 <= len(words):
            row.append(("lot", number_in(words[at + 1])))
            at += 2
        elif words[at] == "vote" and at + 4 <= len(words):
            row.append(("vote", number_in(words[at + 1]), number_in(words[at + 2]), words[at + 3]))
            at += 4
        else:
            raise BadText("a round is a lot with a number, or a vote with two and a word")
    return row


def do_with_one(house, deed, name):
    """Does a deed that is written with one name."""
    if deed == "strike":
        house.strike(name)
    elif deed == "dissolve":
        house.dissolve(name)
    elif deed == "drop":
        house.drop(name)
    elif deed == "poll":
        house.poll(name)
    elif deed == "shut":
        house.shut(name)
    else:
        raise BadText("no deed with one name is written so")


def do_with_two(house, deed, name, other):
    """Does a deed that is written with two names."""
    if deed == "enroll":
        house.enroll(name, other)
    elif deed == "move":
        house.move(name, other)
    elif deed == "draw":
        house.draw(name, other)
    else:
        raise BadText("no deed with two names is written so")


def do_words(house, deed, names):
    """Does the deed that a line tells."""
    if deed == "league" and len(names) >= 1:
        house.league(names[0], names[1:])
    elif deed == "lay" and len(names) >= 1:
        house.lay(names[0], rounds_in(names[1:]))
    elif deed == "begin" and len(names) == 3:
        house.begin(names[0], names[1], names[2])
    elif len(names) == 1:
        do_with_one(house, deed, names[0])
    elif len(names) == 2:
        do_with_two(house, deed, names[0], names[1])
    else:
        raise BadText("no deed is written so")


def read_back(text):
    """The house in which the deeds of the text were done one by one."""
    house = House()
    if text == "":
        return house
    for line in text.split("\n"):
        words = line.split(" ")
        try:
            do_words(house, words[0], words[1:])
        except BallotError:
            raise BadText("a line is no deed, or one that is refused where it stands") from None
    return house
