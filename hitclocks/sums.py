"""What bodies can be worth by a paper: nothing, a number, or open.

A row is a dict from ends: what is missing in it is nothing, None stands for open.
"""


class Sums:
    """Adds and compares the numbers that heads have, along the bodies."""

    def __init__(self, grammar, steps, rows):
        self.grammar = grammar
        self.steps = steps
        self.rows = rows
        self.summed_rows = {}
        self.all_open = {}
        for state in range(len(steps)):
            self.all_open[state] = None

    def production(self, head, state):
        """The row of what a head can do from a state by its productions."""
        if len(self.grammar.heads[head]) == 1:
            return self.row_of(self.grammar.units[head][0], state)
        sums = {state: 0}
        raise_to(sums, self.behind(self.row_of(self.grammar.pairs[head][0], state), head))
        return sums

    def row_of(self, symbol, state):
        """The row of a symbol from a state."""
        if symbol < len(self.grammar.heads):
            return self.rows.get((symbol, state), self.all_open)
        if (symbol, state) not in self.summed_rows:
            self.summed_rows[(symbol, state)] = self.row_of_place(self.grammar.shapes[symbol], symbol, state)
        return self.summed_rows[(symbol, state)]

    def row_of_place(self, shape, symbol, state):
        """The row of a symbol of a place in a body."""
        if shape[0] == "read":
            place, paid = self.steps[state][self.grammar.letters[symbol]]
            return {place: paid}
        sums = {}
        if shape[0] == "either":
            for part in shape[1]:
                raise_to(sums, self.row_of(part, state))
            return sums
        layer = {state: 0}
        if shape[0] == "then":
            for part in shape[1]:
                layer = self.behind(layer, part)
        if shape[0] != "times":
            return layer
        for many in range(shape[3] + 1):
            if many >= shape[2]:
                raise_to(sums, layer)
            layer = self.behind(layer, shape[1])
        return sums

    def behind(self, layer, symbol):
        """The row of what is behind these ends, each one with what a symbol is from there."""
        sums = {}
        for mid, paid in layer.items():
            row = self.row_of(symbol, mid)
            if paid is None:
                for end in row:
                    sums[end] = None
            else:
                for end, more in row.items():
                    raise_at(sums, end, None if more is None else paid + more)
        return sums


def raise_at(sums, end, paid):
    """Has a row tell at least this at an end."""
    if paid is None or end not in sums:
        sums[end] = paid
    elif sums[end] is not None and sums[end] < paid:
        sums[end] = paid


def raise_to(sums, row):
    """Has a row tell at least what another one tells, at each end."""
    for end, paid in row.items():
        raise_at(sums, end, paid)
