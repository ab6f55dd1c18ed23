"""What may come behind words of a program, from a start of a memory to goals."""

from hitclocks.cases import MOST_TRIPLES
from hitclocks.errors import NotOpen, TooMany
from hitclocks.findings import Finding
from hitclocks.heads import heads
from hitclocks.memories import Memory, read_along
from hitclocks.programs import letters_of
from hitclocks.searches import steps_at
from hitclocks.wholes import Asker

NO_WORTH = (0, 0)


class Rests:
    """Tells which words are open, and what their rests cost; what was told is kept.

    A word is read in states of its own, one for each letter, in which nothing is paid and no other letter can be read;
    the last letter leads to where the memory is behind the word.
    """

    def __init__(self, memory, program, start, goals):
        self.memory = memory
        self.program = program
        self.start = start
        self.goals = goals
        self.many_heads = len(heads(program))
        self.opened = {}
        self.fronts = {}

    def check_room(self, letters):
        """TooMany(2000) if there are more triples, each of so many letters counting as a state."""
        many = len(self.memory) + letters
        if self.many_heads * many * many > MOST_TRIPLES:
            raise TooMany(MOST_TRIPLES)

    def place_ahead(self, word, at):
        """The state in which the letters of a word from an index on are read."""
        return len(self.memory) + at if at < len(word) else read_along(self.memory, self.start, word)[0]

    def steps_behind(self, word, price):
        """The steps of the memory at a price, and those of the states in which a word is read."""
        steps = steps_at(self.memory, price)
        for at, letter in enumerate(word):
            steps.append({letter: (self.place_ahead(word, at + 1), 0)})
        return steps

    def memory_with(self, word):
        """The memory with the states in which a word is read, too; what other letters do in these has no meaning."""
        moves = list(self.memory.moves)
        for at in range(len(word)):
            moves.append(((self.place_ahead(word, at + 1), 0, 0),) * len(self.memory.letters))
        return Memory(self.memory.letters, tuple(moves))

    def is_open(self, word):
        """Whether a word is open."""
        if word not in self.opened:
            steps = self.steps_behind(word, NO_WORTH)
            finding = Finding(self.program, steps, self.place_ahead(word, 0), self.goals)
            self.opened[word] = finding.greatest() is not None
        return self.opened[word]

    def longest_open(self, word):
        """The length of the longest beginning of a word that is open; None if there is none."""
        for many in range(len(word), -1, -1):
            if self.is_open(word[:many]):
                return many
        return None

    def check_open(self, word):
        """NotOpen with the length of the longest beginning that is open, unless the word is."""
        many = self.longest_open(word)
        if many != len(word):
            raise NotOpen(many)

    def front(self, word):
        """The front of the rests of a word; None if it is not open."""
        if word not in self.fronts:
            asker = Asker(
                self.memory_with(word),
                self.program,
                self.place_ahead(word, 0),
                self.goals,
                lambda price: self.steps_behind(word, price))
            self.fronts[word] = asker.front()
        return self.fronts[word]

    def next_letters(self, word):
        """The ascending tuple of the letters with which a word is open."""
        return tuple([letter for letter in letters_of(self.program) if self.is_open(word + (letter,))])
