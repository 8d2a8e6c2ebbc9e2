"""The house: people and clans, leagues, rows and sittings, and the deeds done to them."""

from ballotin.chain import chance
from ballotin.errors import BadName, BadRound, Full, NoLeague, NoPerson, NoRow, NoSitting, NothingLeft, Taken
from ballotin.rounds import MOST_PEOPLE, MOST_SEATS, need_whole
from ballotin.sitting import Sitting, Terms

MOST_ON_ROLL = 60
MOST_ROUNDS = 20
LONGEST_NAME = 8
# What a house holds has a key of its kind and its name; the roll, which has an order, is one thing.
ROLL = ("roll", "")
WORDS = ("council", "bench", "stay")


def is_name(text):
    """True where the text may be a name."""
    if len(text) < 1 or len(text) > LONGEST_NAME:
        return False
    return all([sign >= "a" and sign <= "z" for sign in text])


def need_names(texts):
    """Refuses texts of which one is no name."""
    for text in texts:
        if not is_name(text):
            raise BadName("a name is 1 to 8 small letters")


def may_fit(step):
    """True where the round's own numbers and words may fit some bench of some council."""
    if step[1] < 1 or step[1] > MOST_SEATS:
        return False
    if len(step) == 2:
        return step[0] == "lot"
    return step[0] == "vote" and step[2] >= 1 and step[2] <= MOST_PEOPLE and step[3] in WORDS


def marks_in(roll, clans):
    """For each on the roll: True where one of these clans is theirs."""
    return [clan in clans for name, clan in roll]


class House:
    """A house. `kept` is what it holds; `past` are the changes that count, `future` those that were taken back.

    A change is a tuple of the deed, the key of what it changed, and that thing ahead of the deed and behind it,
    None where there is none. The things themselves are never changed, so houses and changes may share them.
    """

    def __init__(self):
        self.kept = {ROLL: ()}
        self.past = []
        self.future = []

    def put(self, key, thing):
        """Holds the thing under the key; None takes away what is there."""
        if thing is None:
            self.kept.pop(key)
        else:
            self.kept[key] = thing

    def do(self, deed, key, thing):
        """Does a deed that was not refused: from now on the thing is held under the key."""
        self.past.append((deed, key, self.kept.get(key), thing))
        self.future = []
        self.put(key, thing)

    def names_of(self, kind):
        """The names of all things of a kind, rising."""
        return sorted([name for own, name in self.kept if own == kind])

    def roll_place(self, name):
        """Where that one stands on the roll."""
        names = [own for own, clan in self.kept[ROLL]]
        if name not in names:
            raise NoPerson("nobody of that name is on the roll")
        return names.index(name)

    def bound_clans(self, name):
        """The clans of a league."""
        if ("league", name) not in self.kept:
            raise NoLeague("no league has that name")
        return self.kept[("league", name)]

    def laid_steps(self, name):
        """The rounds of a row."""
        if ("row", name) not in self.kept:
            raise NoRow("no row has that name")
        return self.kept[("row", name)]

    def sitting(self, name):
        """The sitting of that name, as it stands."""
        if ("sitting", name) not in self.kept:
            raise NoSitting("no sitting has that name")
        return self.kept[("sitting", name)]

    def enroll(self, name, clan):
        """Somebody joins behind all others."""
        need_names([name, clan])
        roll = self.kept[ROLL]
        if name in [own for own, other in roll]:
            raise Taken("that one is on the roll already")
        if len(roll) >= MOST_ON_ROLL:
            raise Full("no more find a place on the roll")
        self.do(("enroll", name, clan), ROLL, roll + ((name, clan),))

    def strike(self, name):
        """Somebody leaves."""
        at = self.roll_place(name)
        roll = self.kept[ROLL]
        self.do(("strike", name), ROLL, roll[:at] + roll[at + 1:])

    def move(self, name, clan):
        """Somebody has another clan, at the same place."""
        at = self.roll_place(name)
        need_names([clan])
        roll = self.kept[ROLL]
        self.do(("move", name, clan), ROLL, roll[:at] + ((name, clan),) + roll[at + 1:])

    def league(self, name, clans):
        """From now on these clans are the league."""
        need_names([name] + list(clans))
        self.do(("league", name, tuple(clans)), ("league", name), tuple(sorted(set(clans))))

    def dissolve(self, name):
        """The league is no more."""
        self.bound_clans(name)
        self.do(("dissolve", name), ("league", name), None)

    def lay(self, name, row):
        """From now on this is the row of that name."""
        need_names([name])
        if len(row) > MOST_ROUNDS:
            raise Full("a row has at most 20 rounds")
        for at, step in enumerate(row):
            if not may_fit(step):
                raise BadRound(at)
        steps = tuple([tuple(step) for step in row])
        self.do(("lay", name, steps), ("row", name), steps)

    def drop(self, name):
        """The row is no more."""
        self.laid_steps(name)
        self.do(("drop", name), ("row", name), None)

    def begin(self, name, row, league):
        """A sitting begins, by a row and for a league."""
        need_names([name])
        if ("sitting", name) in self.kept:
            raise Taken("a sitting of that name stands")
        steps = self.laid_steps(row)
        clans = self.bound_clans(league)
        roll = self.kept[ROLL]
        need_whole(len(roll), steps)
        terms = Terms([own for own, clan in roll], marks_in(roll, clans), steps)
        self.do(("begin", name, row, league), ("sitting", name), Sitting(terms, (), (), False))

    def draw(self, name, person):
        """One ball is drawn in a sitting."""
        self.do(("draw", name, person), ("sitting", name), self.sitting(name).behind_ball(person))

    def poll(self, name):
        """The bench of a sitting gives its voices."""
        self.do(("poll", name), ("sitting", name), self.sitting(name).behind_poll())

    def shut(self, name):
        """The sitting is no more."""
        self.sitting(name)
        self.do(("shut", name), ("sitting", name), None)

    def undo(self):
        """Takes back the last deed that counts, and tells it."""
        if not self.past:
            raise NothingLeft("no deed is left to take back")
        deed, key, before, behind = self.past.pop()
        self.future.append((deed, key, before, behind))
        self.put(key, before)
        return deed

    def redo(self):
        """Does again what was taken back last, and tells it."""
        if not self.future:
            raise NothingLeft("no deed is left to do again")
        deed, key, before, behind = self.future.pop()
        self.past.append((deed, key, before, behind))
        self.put(key, behind)
        return deed

    def twin(self):
        """A house that stands as this one does, and goes its own way from now on."""
        other = House()
        other.kept = dict(self.kept)
        other.past = list(self.past)
        other.future = list(self.future)
        return other

    def deeds(self):
        """The deeds that count."""
        return [deed for deed, key, before, behind in self.past]

    def people(self):
        """The roll: pairs of a name and a clan."""
        return list(self.kept[ROLL])

    def leagues(self):
        """The names of the leagues."""
        return self.names_of("league")

    def rows(self):
        """The names of the rows."""
        return self.names_of("row")

    def sittings(self):
        """The names of the sittings."""
        return self.names_of("sitting")

    def clans_of(self, name):
        """The clans of a league, rising."""
        return list(self.bound_clans(name))

    def friends(self, name):
        """The friends of a league, in the roll's order."""
        clans = self.bound_clans(name)
        return [own for own, clan in self.kept[ROLL] if clan in clans]

    def row(self, name):
        """The rounds of a row."""
        return list(self.laid_steps(name))

    def chance_of(self, steps, clans):
        """The chance of these clans with these rounds, for the council as it is."""
        marks = marks_in(self.kept[ROLL], clans)
        return chance(len(marks), marks.count(True), steps)

    def outlook(self, row, league):
        """The chance of a league with a row, for the council as it is."""
        steps = self.laid_steps(row)
        return self.chance_of(steps, self.bound_clans(league))

    def swing(self, row, league, clan):
        """The chances of a league with a row, without the clan and with it."""
        steps = self.laid_steps(row)
        without = [own for own in self.bound_clans(league) if own != clan]
        return (self.chance_of(steps, without), self.chance_of(steps, without + [clan]))

    def due(self, name):
        """What is due in a sitting: `draw`, `poll` or `done`."""
        return self.sitting(name).due_now()

    def bench(self, name):
        """Who sat last in a sitting."""
        return self.sitting(name).bench_now()

    def waiting(self, name):
        """Who may be drawn now in a sitting."""
        return self.sitting(name).waiting_now()

    def drawn(self, name):
        """Who was drawn in the round that is under way, as they came."""
        return self.sitting(name).drawn_now()

    def chance(self, name):
        """The chance of a sitting as it stands."""
        return self.sitting(name).chance_now()

    def head(self, name):
        """The head that a sitting made."""
        return self.sitting(name).head_made()

    def story(self, name):
        """The benches behind all rounds of a sitting that are over."""
        return self.sitting(name).story_so_far()
