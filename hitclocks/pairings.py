"""Pairs of states of two memories, and the dearest words between them at one price."""

from hitclocks.alike import word_of_ways
from hitclocks.errors import TooMany
from hitclocks.lines import added_pairs, worth_at

MOST_PAIRS = 2000
NO_PAIR = (0, 0)


class Pairings:
    """The pairs of states to which letters lead from some pairs, and what each letter costs the one memory more."""

    def __init__(self, one, other, begun):
        self.letters = one.letters
        self.pairs = list(begun)
        # For each pair the number of an earlier one and the letter that leads from there, () for those begun with.
        self.origins = [() for _ in begun]
        self.numbers = {}
        for pair in begun:
            self.numbers[pair] = len(self.numbers)
        # For each pair the numbers of the pairs behind its letters, and what these letters cost more.
        self.places = []
        self.excesses = []
        while len(self.places) < len(self.pairs):
            self.check_room()
            self.put_steps(one, other)
        # For each pair the numbers of the pairs ahead of it, each with the column of a letter.
        self.ahead = [[] for _ in self.pairs]
        for number, row in enumerate(self.places):
            for column, place in enumerate(row):
                self.ahead[place].append((number, column))

    def check_room(self):
        """TooMany(2000) if there are more pairs."""
        if len(self.pairs) > MOST_PAIRS:
            raise TooMany(MOST_PAIRS)

    def put_steps(self, one, other):
        """Takes down what the letters do from the next pair."""
        first, second = self.pairs[len(self.places)]
        row = []
        paid = []
        for column, letter in enumerate(self.letters):
            place, a, b = one.moves[first][column]
            follower, c, d = other.moves[second][column]
            if (place, follower) not in self.numbers:
                self.numbers[(place, follower)] = len(self.pairs)
                self.pairs.append((place, follower))
                self.origins.append((len(self.places), letter))
            row.append(self.numbers[(place, follower)])
            paid.append((a - c, b - d))
        self.places.append(row)
        self.excesses.append(paid)

    def word_to(self, number):
        """A word that leads from a pair begun with to this one."""
        return word_of_ways(self.origins, number)


class Climb:
    """For each pair the greatest worth of a word from there on, at one price, by its first letters; or a ring."""

    def __init__(self, pairings, price):
        self.pairings = pairings
        self.gains = []
        for row in pairings.excesses:
            self.gains.append([worth_at(pair, price) for pair in row])
        self.best = [0] * len(self.gains)
        # For each pair the column of the first letter of such a word, None if that is ().
        self.columns = [None] * len(self.gains)
        # The numbers of pairs in a ring that gains, each led to the next one by its column.
        self.ring = []
        raised = list(range(len(self.gains)))
        while raised and not self.ring:
            raised = self.raise_ahead(raised)
            self.ring = self.ring_of_columns(raised)

    def raise_ahead(self, raised):
        """Takes what was raised to the pairs ahead of it: the list of those that are raised by that."""
        further = {}
        for number in raised:
            for before, column in self.pairings.ahead[number]:
                if self.best[before] < self.gains[before][column] + self.best[number]:
                    self.best[before] = self.gains[before][column] + self.best[number]
                    self.columns[before] = column
                    further[before] = True
        return list(further)

    def ring_of_columns(self, begun):
        """The pairs of a ring to which the columns lead from some pairs; [] if they lead to none."""
        seen = {}
        for first in begun:
            number = first
            path = []
            while number not in seen and self.columns[number] is not None:
                seen[number] = first
                path.append(number)
                number = self.pairings.places[number][self.columns[number]]
            if number in path:
                return path[path.index(number):]
        return []

    def letters_of(self, numbers):
        """The word of the letters of the columns of some pairs."""
        return tuple([self.pairings.letters[self.columns[number]] for number in numbers])

    def paid_by(self, numbers):
        """The sum of what the letters of the columns of some pairs cost more."""
        paid = NO_PAIR
        for number in numbers:
            paid = added_pairs(paid, self.pairings.excesses[number][self.columns[number]])
        return paid

    def path_from(self, number):
        """The list of the pairs along the word of the greatest worth, but for the last one."""
        path = []
        while self.columns[number] is not None:
            path.append(number)
            number = self.pairings.places[number][self.columns[number]]
        return path


class ExcessAsker:
    """Answers what words cost more at a price, and keeps the words and rings by which it does."""

    def __init__(self, pairings, begun):
        self.pairings = pairings
        self.firsts = begun
        self.words = {}
        self.rings = {}

    def answer(self, price):
        """("most", pair) of a word of the greatest worth from a pair begun with, or ("gains", pair) of a ring."""
        climb = Climb(self.pairings, price)
        if climb.ring:
            gained = climb.paid_by(climb.ring)
            self.rings[gained] = (self.pairings.word_to(climb.ring[0]), climb.letters_of(climb.ring))
            return ("gains", gained)
        most = max([climb.best[number] for number in self.firsts])
        path = climb.path_from([number for number in self.firsts if climb.best[number] == most][0])
        paid = climb.paid_by(path)
        self.words[paid] = climb.letters_of(path)
        return ("most", paid)
