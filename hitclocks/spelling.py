"""Which words a grammar has: the ends of what can be read, for all places of a word or a tree of words."""


class Spelling:
    """What a grammar needs to be read by: which symbols can be empty, and what each one is a part of."""

    def __init__(self, grammar):
        self.grammar = grammar
        self.as_unit = [[] for _ in grammar.shapes]
        self.as_left = [[] for _ in grammar.shapes]
        self.as_right = [[] for _ in grammar.shapes]
        self.readers = {}
        for symbol in range(len(grammar.shapes)):
            self.put(symbol)
        self.empty = done_with(self, grammar.empties)

    def put(self, symbol):
        """Takes down what a symbol is done with."""
        for part in self.grammar.units[symbol]:
            self.as_unit[part].append(symbol)
        pair = self.grammar.pairs[symbol]
        if pair is not None:
            self.as_left[pair[0]].append(symbol)
            self.as_right[pair[1]].append(symbol)
        letter = self.grammar.letters[symbol]
        if letter is not None:
            self.readers.setdefault(letter, []).append(symbol)


def done_with(spelling, given):
    """For each symbol, whether it can be done with nothing but the symbols that are given."""
    done = list(given)
    waiting = [symbol for symbol in range(len(done)) if done[symbol]]
    pairs = spelling.grammar.pairs
    while waiting:
        part = waiting.pop()
        whole = list(spelling.as_unit[part])
        for symbol in spelling.as_left[part] + spelling.as_right[part]:
            if done[pairs[symbol][0]] and done[pairs[symbol][1]]:
                whole.append(symbol)
        for symbol in whole:
            if not done[symbol]:
                done[symbol] = True
                waiting.append(symbol)
    return done


def with_words(grammar):
    """For each symbol, whether it has a word."""
    given = []
    for symbol, empty in enumerate(grammar.empties):
        given.append(empty or grammar.letters[symbol] is not None)
    return done_with(Spelling(grammar), given)


def bits(mask):
    """The list of the places at which a mask has a bit."""
    places = []
    while mask:
        lowest = mask & -mask
        places.append(lowest.bit_length() - 1)
        mask = mask ^ lowest
    return places


class Ends:
    """Where the words of each symbol end, from the places that have been looked at.

    steps has for each place a dict from letters to places behind it.
    """

    def __init__(self, spelling, steps):
        self.spelling = spelling
        self.pairs = spelling.grammar.pairs
        self.steps = steps
        self.masks = [{} for _ in spelling.empty]

    def ends(self, symbol, place):
        """The mask of the ends that are known; the place itself is one if the symbol can be empty."""
        mask = self.masks[symbol].get(place, 0)
        return mask | 1 << place if self.spelling.empty[symbol] else mask

    def fill(self, place):
        """Finds all ends from a place, those from later places being known."""
        for letter, after in self.steps[place].items():
            for symbol in self.spelling.readers.get(letter, []):
                self.spread(place, symbol, 1 << after)

    def spread(self, place, symbol, ends):
        """Takes down ends of a symbol from a place, and all that follows from them there."""
        waiting = [(symbol, ends)]
        while waiting:
            part, found = waiting.pop()
            known = self.ends(part, place)
            found = found & ~known
            if not found:
                continue
            self.masks[part][place] = known | found
            for whole in self.spelling.as_unit[part]:
                waiting.append((whole, found))
            for whole in self.spelling.as_right[part]:
                if self.spelling.empty[self.pairs[whole][0]]:
                    waiting.append((whole, found))
            for whole in self.spelling.as_left[part]:
                waiting.append((whole, self.ends_behind(self.pairs[whole][1], found)))

    def ends_behind(self, symbol, places):
        """The mask of the ends of a symbol from the places of a mask, all of them looked at."""
        lowest = places & -places
        all_behind = (1 << len(self.steps)) - lowest
        mask = 0
        while places and mask != all_behind:
            lowest = places & -places
            mask = mask | self.ends(symbol, lowest.bit_length() - 1)
            places = places ^ lowest
        return mask


def ends_from_first(spelling, symbol, steps):
    """The ascending list of the places to which a symbol's words lead from place 0."""
    known = Ends(spelling, steps)
    for place in range(len(steps) - 1, -1, -1):
        known.fill(place)
    return bits(known.ends(symbol, 0))
