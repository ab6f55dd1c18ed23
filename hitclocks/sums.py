"""What bodies can be worth by a paper: nothing, a value, or open.

A value is a pair, of which the greater one counts: what is paid first, and then a rank. Values are added by places.
A row is a dict from ends: what is missing in it is nothing, None stands for open.
"""

from hitclocks.lines import added_pairs

NOTHING_PAID = (0, 0)


class Sums:
    """Adds and compares the values that heads have, along the bodies."""

    def __init__(self, grammar, steps, rows):
        self.grammar = grammar
        self.steps = steps
        self.rows = rows
        self.summed_rows = {}
        self.all_open = {}
        for state in range(len(steps)):
            self.all_open[state] = None

    def production(self, head, state):
        """The row of what a head can do from a state by its productions."""
        if len(self.grammar.heads[head]) == 1:
            self.fill(self.grammar.units[head], [state])
            return self.row_of(self.grammar.units[head][0], state)
        body = self.grammar.pairs[head][0]
        self.fill([body], [state])
        sums = {state: NOTHING_PAID}
        raise_to(sums, self.behind(self.row_of(body, state), head))
        return sums

    def fill(self, symbols, states):
        """Finds the rows of some symbols from some states, and all that these need."""
        waiting = self.missing(symbols, states)
        while waiting:
            symbol, state = waiting[-1]
            lacking = []
            if (symbol, state) not in self.summed_rows:
                lacking = self.put_row(self.grammar.shapes[symbol], symbol, state)
            if lacking:
                waiting.extend(lacking)
            else:
                waiting.pop()

    def missing(self, symbols, states):
        """The list of those of some symbols, with those of some states, whose rows are not known yet."""
        found = []
        for symbol in symbols:
            if symbol >= len(self.grammar.heads):
                found.extend([(symbol, state) for state in states if (symbol, state) not in self.summed_rows])
        return found

    def row_of(self, symbol, state):
        """The row of a symbol from a state, which is known."""
        if symbol < len(self.grammar.heads):
            return self.rows.get((symbol, state), self.all_open)
        return self.summed_rows[(symbol, state)]

    def put_row(self, shape, symbol, state):
        """Takes down the row of a symbol of a place in a body, unless rows are missing: the list of these."""
        sums = {}
        layer = {state: NOTHING_PAID}
        lacking = []
        if shape[0] == "read":
            place, paid = self.steps[state][self.grammar.letters[symbol]]
            sums[place] = paid
        elif shape[0] == "none":
            sums = layer
        elif shape[0] == "either":
            lacking = self.missing(shape[1], [state])
            if not lacking:
                for part in shape[1]:
                    raise_to(sums, self.row_of(part, state))
        else:
            parts, low = (shape[1], len(shape[1])) if shape[0] == "then" else ((shape[1],) * shape[3], shape[2])
            lacking = self.add_layers(sums, layer, parts, low)
        if not lacking:
            self.summed_rows[(symbol, state)] = sums
        return lacking

    def add_layers(self, sums, layer, parts, low):
        """Adds what is behind low or more of these parts to a row, unless rows are missing: the list of these."""
        for many, part in enumerate(parts):
            if many >= low:
                raise_to(sums, layer)
            lacking = self.missing([part], list(layer))
            if lacking:
                return lacking
            layer = self.behind(layer, part)
        raise_to(sums, layer)
        return []

    def behind(self, layer, symbol):
        """The row of what is behind these ends, each one with what a symbol is from there."""
        sums = {}
        for mid, paid in layer.items():
            row = self.row_of(symbol, mid)
            if paid is None:
                for end in row:
                    sums[end] = None
            else:
                for end, more in row.items():
                    raise_at(sums, end, None if more is None else added_pairs(paid, more))
        return sums


def raise_at(sums, end, paid):
    """Has a row tell at least this at an end."""
    if paid is None or end not in sums:
        sums[end] = paid
    elif sums[end] is not None and sums[end] < paid:
        sums[end] = paid


def raise_to(sums, row):
    """Has a row tell at least what another one tells, at each end."""
    for end, paid in row.items():
        raise_at(sums, end, paid)
