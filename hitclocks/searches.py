"""The search for the dearest runs at one price: all runs that a start needs, by their greatest worths."""

from hitclocks.lines import worth_at
from hitclocks.memories import steps_by
from hitclocks.records import NO_RECORD, Records
from hitclocks.rounds import find_rounds


class Row:
    """What is known of the runs of a symbol from a state."""

    def __init__(self, symbol, state, base):
        self.symbol = symbol
        self.origin = state
        self.base = base
        # For each end the greatest worth so far, None for endless, and the record of a run.
        self.best = {}
        self.runs = {}
        # For each endless end the way to it: parts of which one is endless, or links of a round.
        self.tops = {}
        self.rounds = {}
        self.waiting = {}
        # The rows that have this one as their only part, their left one, or their right one from a mid.
        self.as_unit = []
        self.as_left = []
        self.as_right = []
        self.mids = {}


class Search:
    """Grows runs from parts to wholes, until nothing gets dearer.

    What would get dearer without end is found by rounds: where the record of an item is made of records of
    the item itself, the round between gains something. So each is endless from then on.
    """

    def __init__(self, grammar, steps):
        self.grammar = grammar
        self.steps = steps
        self.many = len(steps)
        self.records = Records(grammar, self.many)
        self.rows = {}
        self.fresh = []
        self.wave = []
        self.many_runs = 0

    def row_at(self, symbol, state):
        """The row of a symbol and a state, a new one if it is not there."""
        number = symbol * self.many + state
        if number not in self.rows:
            self.rows[number] = Row(symbol, state, number * self.many)
            self.fresh.append(self.rows[number])
        return self.rows[number]

    def row_of(self, item):
        """The row of an item."""
        return self.rows[item // self.many]

    def is_endless(self, item):
        """Whether an item that has a run is endless."""
        return self.row_of(item).best[item % self.many] is None

    def grow(self, goal_items):
        """Grows all that can grow, at most until one of these items is endless."""
        self.begin_fresh()
        grown = 0
        while self.wave and not self.has_endless(goal_items):
            wave = self.wave
            self.wave = []
            for row, end in wave:
                del row.waiting[end]
                self.spread(row, end)
                self.begin_fresh()
            grown += len(wave)
            if grown >= self.many_runs:
                grown = 0
                find_rounds(self)

    def has_endless(self, goal_items):
        """Whether one of these items is endless."""
        for item in goal_items:
            row = self.rows.get(item // self.many, None)
            if row is not None and item % self.many in row.best and row.best[item % self.many] is None:
                return True
        return False

    def begin_fresh(self):
        """Begins all new rows."""
        while self.fresh:
            self.begin(self.fresh.pop())

    def begin(self, row):
        """Takes all that a row can be done with from the beginning on."""
        grammar = self.grammar
        if grammar.empties[row.symbol]:
            self.take(row, row.origin, 0, NO_RECORD, NO_RECORD)
        letter = grammar.letters[row.symbol]
        if letter in self.steps[row.origin]:
            place, paid = self.steps[row.origin][letter]
            self.take(row, place, paid, NO_RECORD, NO_RECORD)
        for symbol in grammar.units[row.symbol]:
            part = self.row_at(symbol, row.origin)
            part.as_unit.append(row)
            for end in list(part.best):
                self.take_unit(row, part, end)
        if grammar.pairs[row.symbol] is not None:
            left = self.row_at(grammar.pairs[row.symbol][0], row.origin)
            left.as_left.append(row)
            for mid in list(left.best):
                self.take_left(row, left, mid)

    def spread(self, row, end):
        """Takes what is known of an item to all that can be done with it."""
        for whole in row.as_unit:
            self.take_unit(whole, row, end)
        for whole in list(row.as_left):
            self.take_left(whole, row, end)
        for whole, left, mid in row.as_right:
            self.take_pair(whole, left, mid, row, end)

    def take_unit(self, row, part, end):
        """Takes an item of a part to a row that can be done as this part."""
        if part.best[end] is None:
            self.take_endless(row, end, part.runs[end], NO_RECORD, 0)
        else:
            self.take(row, end, part.best[end], part.runs[end], NO_RECORD)

    def take_left(self, row, left, mid):
        """Takes an item of the left part of a row, with all that is known of the right part behind it."""
        right = self.row_at(self.grammar.pairs[row.symbol][1], mid)
        if mid not in row.mids:
            row.mids[mid] = True
            right.as_right.append((row, left, mid))
        for end in list(right.best):
            self.take_pair(row, left, mid, right, end)

    def take_pair(self, row, left, mid, right, end):
        """Takes an item of the left part and one of the right part behind it."""
        paid = left.best[mid]
        more = right.best[end]
        if paid is None:
            self.take_endless(row, end, left.runs[mid], right.runs[end], 0)
        elif more is None:
            self.take_endless(row, end, left.runs[mid], right.runs[end], 1)
        else:
            self.take(row, end, paid + more, left.runs[mid], right.runs[end])

    def take(self, row, end, paid, left, right):
        """Takes a run with this worth, if it is the first one or dearer than what is known."""
        best = row.best
        if end in best and (best[end] is None or best[end] >= paid):
            return
        best[end] = paid
        self.note_run(row, end, left, right)
        self.push(row, end)

    def take_endless(self, row, end, left, right, place):
        """Takes an endless item, the part at this place being endless."""
        if end in row.best and row.best[end] is None:
            return
        if end not in row.runs:
            self.note_run(row, end, left, right)
        row.tops[end] = (left, right, place)
        row.best[end] = None
        self.push(row, end)

    def note_run(self, row, end, left, right):
        """Takes down the parts of a run."""
        if end not in row.runs:
            self.many_runs += 1
        row.runs[end] = self.records.put(row.base + end, left, right)

    def take_round(self, links):
        """Takes a round that gains: the item of its head is endless."""
        first = 0
        while self.grammar_symbol(links[first][0]) >= len(self.grammar.heads):
            first += 1
        item = links[first][0]
        row = self.row_of(item)
        row.rounds[item % self.many] = links[first:] + links[:first]
        row.best[item % self.many] = None
        self.push(row, item % self.many)

    def grammar_symbol(self, item):
        """The symbol of an item."""
        return item // (self.many * self.many)

    def push(self, row, end):
        """Has an item taken on in the next wave."""
        if end not in row.waiting:
            row.waiting[end] = True
            self.wave.append((row, end))


def steps_at(memory, price):
    """For each state the dict from the letters to the next state and the worth of what is paid."""
    return steps_by(memory, lambda pair: worth_at(pair, price))
