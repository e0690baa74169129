"""How the weights of a hoist can be borne: by props at first, then by ropes in their place.

A prop under each body lifts that body alone, by one strand, so that props alone bear any weights. Ropes then take the
places of props and of one another for as long as that helps: the simplex way. It takes the first rope and the first
bearer of those that fit (Bland's rule), as it might turn in a circle otherwise.

Columns are the ropes, then the props. A row has a cell for each column and a load at its end. Its bearer is the column
that has one in this row and nought in the others: the load is the bearer's pull, and columns that bear no row have
none. The way is a motion: for each rope what it gets to spare and what it is granted, added; then for each body how
far it rises; and the gain at its end. A rope is granted one while its own pull is lessened, else nought.
"""

from hoistworks.forces import gain, spare, strands_at
from hoistworks.parts import NOUGHT, less, minus, over, times

ONE = (1, 1)


class Bearing:
    def __init__(self, hoist):
        bodies = len(hoist.weights())
        self.ropes = hoist.many_ropes()
        self.rows = [first_row(hoist, body) for body in range(bodies)]
        self.bearers = [self.ropes + body for body in range(bodies)]
        # Where all bodies sink by one, the loss is what all props bear together: this is to be lessened first.
        self.way = whole_way(hoist, [(-1, 1)] * bodies)
        self.settle()

    def sinks(self):
        return less(self.way[-1], NOUGHT)

    def pulls(self):
        found = [NOUGHT] * self.ropes
        for bearer, row in zip(self.bearers, self.rows):
            if bearer < self.ropes:
                found[bearer] = row[-1]
        return found

    def motion(self):
        return self.way[self.ropes:-1]

    # Only for a hoist that hangs still, as its props must bear nothing.
    def lessen(self, rope):
        self.leave_props()
        way = [NOUGHT] * len(self.way)
        way[rope] = ONE
        for bearer, row in zip(self.bearers, self.rows):
            way = cleared(way, row, bearer)
        self.way = way
        self.settle()

    def settle(self):
        rope = self.short_rope()
        while rope is not None:
            self.take_place(self.first_freed(rope), rope)
            rope = self.short_rope()

    def short_rope(self):
        return first_true([less(cell, NOUGHT) for cell in self.way[:self.ropes]])

    # A prop that is left where a rope could stand might bear something again, once ropes change their pulls.
    def leave_props(self):
        for place in range(len(self.rows)):
            rope = first_true([cell != NOUGHT for cell in self.rows[place][:self.ropes]])
            if self.bearers[place] >= self.ropes and rope is not None:
                self.take_place(place, rope)

    # The row whose bearer is the first to have no load, while the rope's pull grows. There is one: neither what the
    # props bear nor a rope's pull can be lessened without end.
    def first_freed(self, rope):
        found = None
        for place in range(len(self.rows)):
            if less(NOUGHT, self.rows[place][rope]):
                if found is None or self.freed_sooner(place, found, rope):
                    found = place
        return found

    def freed_sooner(self, place, other, rope):
        here = over(self.rows[place][-1], self.rows[place][rope])
        there = over(self.rows[other][-1], self.rows[other][rope])
        return less(here, there) or (here == there and self.bearers[place] < self.bearers[other])

    def take_place(self, place, rope):
        divisor = self.rows[place][rope]
        taken = [over(cell, divisor) for cell in self.rows[place]]
        self.rows = [cleared(row, taken, rope) for row in self.rows]
        self.rows[place] = taken
        self.way = cleared(self.way, taken, rope)
        self.bearers[place] = rope


def first_row(hoist, body):
    weights = hoist.weights()
    props = [0] * len(weights)
    props[body] = 1
    return [(number, 1) for number in strands_at(hoist, body) + props + [weights[body]]]


def whole_way(hoist, motion):
    return spare(hoist, motion) + motion + [gain(hoist, motion)]


# The row, less as much of the other row as brings its cell in this column to nought.
def cleared(row, other, column):
    share = row[column]
    return [minus(cell, times(share, taken)) for cell, taken in zip(row, other)]


def first_true(answers):
    for place, answer in enumerate(answers):
        if answer:
            return place
    return None
