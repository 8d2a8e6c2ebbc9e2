"""Sittings: one by one the balls and polls of a row of rounds."""

from ballotin.bench import behind, behind_lot
from ballotin.chain import worths
from ballotin.errors import NoHead, NoPerson, NotDue
from ballotin.names import bench_undrawn, drawn_out_of, friends_among
from ballotin.parts import lowest
from ballotin.rounds import draws_behind


class Terms:
    """What a sitting keeps as it was when it began: the roll, the friends and the row."""

    def __init__(self, roll, marks, steps):
        self.roll = tuple(roll)
        self.marks = tuple(marks)
        self.steps = tuple(steps)
        self.worthy = None

    def names_at(self, places):
        """The names of those who stand at these places of the roll."""
        return [self.roll[place] for place in places]

    def friends_in_all(self):
        """How many of the roll are friends."""
        return self.marks.count(True)

    def later_ways(self, at):
        """Behind that round: the good rows of later draws by friends on the bench, and how many there are in all."""
        # The reckoning is long and the same for all that happens in a sitting, so it is made once, when asked for.
        if self.worthy is None:
            good = worths(len(self.roll), self.friends_in_all(), self.steps)
            self.worthy = list(zip(good, draws_behind(len(self.roll), self.steps)))
        return self.worthy[at]


class Sitting:
    """A sitting as it stands. It is never changed: a ball or a poll makes the next one.

    `over` holds the benches behind all rounds that are over, `balls` those drawn in the round that is under way,
    both by places on the roll; `hangs` is True where that round is a vote that hangs and draws.
    """

    def __init__(self, terms, over, balls, hangs):
        self.terms = terms
        self.over = over
        self.balls = balls
        self.hangs = hangs

    def step(self):
        """The round that is under way."""
        return self.terms.steps[len(self.over)]

    def sat_last(self):
        """The places of those who sat last."""
        if self.over:
            return self.over[-1]
        return tuple(range(len(self.terms.roll)))

    def left(self):
        """The places of those who may be drawn now."""
        if self.due_now() != "draw":
            return []
        pool = drawn_out_of(self.terms.marks, self.sat_last(), self.step())
        return [place for place in pool if place not in self.balls]

    def due_now(self):
        """What is due: `draw`, `poll` or `done`."""
        if len(self.over) == len(self.terms.steps):
            return "done"
        if self.step()[0] == "lot" or self.hangs:
            return "draw"
        return "poll"

    def bench_now(self):
        """Who sat last."""
        return self.terms.names_at(self.sat_last())

    def waiting_now(self):
        """Who may be drawn now."""
        return self.terms.names_at(self.left())

    def drawn_now(self):
        """Who was drawn in the round that is under way, as they came."""
        return self.terms.names_at(self.balls)

    def story_so_far(self):
        """The benches behind all rounds that are over."""
        return [self.terms.names_at(bench) for bench in self.over]

    def head_made(self):
        """The head."""
        if self.due_now() != "done":
            raise NoHead("no head is made yet")
        return self.bench_now()[0]

    def with_bench(self, places):
        """The sitting with this bench behind the round that was under way."""
        return Sitting(self.terms, self.over + (tuple(places),), (), False)

    def behind_ball(self, person):
        """The sitting behind the ball of that person."""
        if self.due_now() != "draw":
            raise NotDue("no draw is due")
        if person not in self.waiting_now():
            raise NoPerson("that one may not be drawn")
        balls = self.balls + (self.terms.roll.index(person),)
        if len(balls) == self.step()[1]:
            return self.with_bench(sorted(balls))
        return Sitting(self.terms, self.over, balls, self.hangs)

    def behind_poll(self):
        """The sitting behind the voices of the bench."""
        if self.due_now() != "poll":
            raise NotDue("no poll is due")
        places = bench_undrawn(self.terms.marks, self.sat_last(), self.step())
        if places is None:
            return Sitting(self.terms, self.over, (), True)
        return self.with_bench(places)

    def ways_on(self):
        """For each number of friends behind the round under way: in how many ways it may come to that."""
        marks = self.terms.marks
        if self.due_now() == "draw":
            left = self.left()
            more = behind_lot(len(left), friends_among(marks, left), self.step()[1] - len(self.balls))
            # Friends who were drawn already sit in any case.
            return [0] * friends_among(marks, self.balls) + more
        bench = self.sat_last()
        friends = self.terms.friends_in_all()
        return behind(len(marks), friends, len(bench), friends_among(marks, bench), self.step())

    def chance_now(self):
        """The share of the ways in which what is still to be drawn may come that make a friend the head."""
        if self.due_now() == "done":
            return (friends_among(self.terms.marks, self.sat_last()), 1)
        good, many = self.terms.later_ways(len(self.over))
        leading = self.ways_on()
        return lowest(sum([one * worth for one, worth in zip(leading, good)]), sum(leading) * many)
