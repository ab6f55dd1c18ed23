"""The best of all runs of each length, for each place of a program.

What is best is told by values: fronts' corners, or a worth and a word.
"""

from hitclocks.lines import AHEAD_OF_ALL, BEHIND_ALL, best_corners, summed_corners, worth_at
from hitclocks.spelling import Spelling


class CornerValues:
    """Corners from (1, 0) to (0, 1): of several ways the greatest worth at each price counts."""

    def __init__(self):
        self.empty = ((0, 0),)

    def of_letter(self, letter, pair):
        """The value of a letter that costs a pair."""
        return (pair,)

    def better_of(self, one, other):
        """The value of what is done as one or the other."""
        return best_corners(one + other, AHEAD_OF_ALL, BEHIND_ALL)

    def sum_behind(self, one, other):
        """The value of what is done as one and then the other."""
        return summed_corners(one, other)


class WordValues:
    """Pairs of a worth, turned, and a word: of several ways, of one length, the least pair counts."""

    def __init__(self, price):
        self.price = price
        self.empty = (0, ())

    def of_letter(self, letter, pair):
        """The value of a letter that costs a pair."""
        return (-worth_at(pair, self.price), (letter,))

    def better_of(self, one, other):
        """The value of what is done as one or the other."""
        return min(one, other)

    def sum_behind(self, one, other):
        """The value of what is done as one and then the other."""
        return (one[0] + other[0], one[1] + other[1])


class Layers:
    """For each symbol, state and length the dict from ends to values."""

    def __init__(self, grammar, memory, first, kind):
        self.grammar = grammar
        self.memory = memory
        self.kind = kind
        self.spelling = Spelling(grammar)
        self.symbols = symbols_below(grammar, first)
        self.rows = {}
        for symbol in self.symbols:
            for state in range(len(memory)):
                empty = {state: kind.empty} if self.spelling.empty[symbol] else {}
                self.rows[(symbol, state)] = [empty]

    def grow(self):
        """Finds the values of the next length, which is 1 at first."""
        for state in range(len(self.memory)):
            waiting = []
            for symbol in self.symbols:
                row = self.begun(symbol, state)
                self.rows[(symbol, state)].append(row)
                if row:
                    waiting.append(symbol)
            while waiting:
                part = waiting.pop()
                for symbol in self.done_as(part):
                    if self.put_all(self.rows[(symbol, state)][-1], self.rows[(part, state)][-1]):
                        waiting.append(symbol)

    def begun(self, symbol, state):
        """The row, of the next length, of what a symbol is done with by a letter or by two shorter parts."""
        row = {}
        length = len(self.rows[(symbol, state)])
        letter = self.grammar.letters[symbol]
        if letter is not None and length == 1:
            place, a, b = self.memory.moves[state][self.memory.letters.index(letter)]
            row[place] = self.kind.of_letter(letter, (a, b))
        if self.grammar.pairs[symbol] is not None:
            left, right = self.grammar.pairs[symbol]
            for ahead in range(1, length):
                for mid, value in self.rows[(left, state)][ahead].items():
                    for end, more in self.rows[(right, mid)][length - ahead].items():
                        self.put(row, end, self.kind.sum_behind(value, more))
        return row

    def done_as(self, part):
        """The list of the symbols that can be done as this part alone."""
        found = list(self.spelling.as_unit[part])
        for symbol in self.spelling.as_left[part]:
            if self.spelling.empty[self.grammar.pairs[symbol][1]]:
                found.append(symbol)
        for symbol in self.spelling.as_right[part]:
            if self.spelling.empty[self.grammar.pairs[symbol][0]]:
                found.append(symbol)
        return [symbol for symbol in found if symbol in self.symbols]

    def put(self, row, end, value):
        """Has a row tell this value, too; whether it tells more then."""
        best = self.kind.better_of(row[end], value) if end in row else value
        if end in row and row[end] == best:
            return False
        row[end] = best
        return True

    def put_all(self, row, other):
        """Has a row tell what another one tells, too; whether it tells more then."""
        grown = False
        for end, value in list(other.items()):
            grown = self.put(row, end, value) or grown
        return grown


def symbols_below(grammar, first):
    """The dict from the symbols that a symbol may need, and itself, to True; ascending."""
    found = {first: True}
    waiting = [first]
    while waiting:
        symbol = waiting.pop()
        for part in grammar.units[symbol] + (grammar.pairs[symbol] or ()):
            if part not in found:
                found[part] = True
                waiting.append(part)
    ordered = {}
    for symbol in sorted(found):
        ordered[symbol] = True
    return ordered
