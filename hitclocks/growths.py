"""What bodies cost by one table, and by one table with another one at a single place.

A growth is a pair: the matrix of what a body costs by the first table; and the dict from places in a matrix, numbered
row by row, to dicts from unknowns, the entries of the second table, to the fronts of what is paid beside these.
"""

from hitclocks.bodies import bodies_of_heads
from hitclocks.equations import parts_but_of_loops, rows_of
from hitclocks.folds import folded
from hitclocks.fronts import ZERO
from hitclocks.matrices import join_of_matrices, nothing_of, product_of, unit_of
from hitclocks.unknowns import Unknowns, put_summed


class Growths:
    """Adds what is paid beside single places of a program, by a table of what the others cost."""

    def __init__(self, lettering, program, table):
        self.lettering = lettering
        self.bodies = bodies_of_heads(program.procedures)
        self.table = table
        self.many = rows_of(lettering)
        self.numbers = {}
        for head in self.bodies:
            self.numbers[head] = len(self.numbers) * self.many * self.many

    def next_table(self):
        """The least table that has what is paid if at most one place costs what it has itself."""
        rows = []
        known = []
        for head in self.bodies:
            matrix, beside = self.production(head)
            for place in range(self.many * self.many):
                rows.append(beside.get(place, {}))
                known.append(matrix[place // self.many][place % self.many])
        fronts = Unknowns(rows, known).solve()
        told = {}
        for head, first in self.numbers.items():
            told[head] = tuple([tuple(fronts[at:at + self.many])
                                for at in range(first, first + self.many * self.many, self.many)])
        return told

    def production(self, head):
        """The growth of what a head can do by its productions."""
        if len(head) == 1:
            return self.growth_of((head[0], ()), self.bodies[head])
        once = self.growth_of((head[0], head[1] + (0,)), self.bodies[head])
        matrix, beside = growth_behind(once, self.growth_of_head(head))
        return (join_of_matrices(unit_of(self.many), matrix), beside)

    def growth_of(self, place, body):
        """The growth of a body at a place, a name and a path."""
        name, path = place
        return folded(
            (path, body),
            parts_but_of_loops,
            lambda node, parts: self.growth_by_parts((name, node[0]), node[1], parts))

    def growth_of_head(self, head):
        """The growth of a place at which a head is named."""
        first = self.numbers[head]
        beside = {}
        for place in range(self.many * self.many):
            beside[place] = {first + place: ZERO}
        return (self.table[head], beside)

    def growth_by_parts(self, place, body, parts):
        """The growth of a body, those of its parts being known."""
        tag = body[0]
        if tag == "read":
            return (self.lettering[body[1]], {})
        if tag == "call":
            return self.growth_of_head((body[1],))
        if tag == "any":
            return self.growth_of_head(place)
        if tag == "either":
            growth = (nothing_of(self.many), {})
            for part in parts:
                growth = growth_beside(growth, part)
            return growth
        growth = (unit_of(self.many), {})
        if tag == "times":
            return growth_of_times(body[1], body[2], growth, parts[0])
        if tag == "then":
            for part in parts:
                growth = growth_behind(growth, part)
        return growth


def growth_of_times(low, high, unit, part):
    """The growth of a part that comes from low to high times."""
    growth = unit if low == 0 else (nothing_of(len(unit[0])), {})
    power = unit
    for number in range(1, high + 1):
        power = growth_behind(power, part)
        if number >= low:
            growth = growth_beside(growth, power)
    return growth


def growth_beside(one, other):
    """The growth of what is done as one or the other."""
    beside = {}
    for growth in (one, other):
        for place, row in growth[1].items():
            put_summed(beside.setdefault(place, {}), row, ZERO)
    return (join_of_matrices(one[0], other[0]), beside)


def growth_behind(one, other):
    """The growth of what is done as one and then the other."""
    many = len(one[0])
    beside = {}
    for place, row in one[1].items():
        start, mid = place // many, place % many
        for end, front in enumerate(other[0][mid]):
            if front is not None:
                put_summed(beside.setdefault(start * many + end, {}), row, front)
    for place, row in other[1].items():
        mid, end = place // many, place % many
        for start in range(many):
            if one[0][start][mid] is not None:
                put_summed(beside.setdefault(start * many + end, {}), row, one[0][start][mid])
    return (product_of(one[0], other[0]), beside)
