"""Programs into which words of others come in any number of times, and the way back."""

from hitclocks.bodies import changed
from hitclocks.breaking import FIRST, new_names, program_below
from hitclocks.broken import check_broken, check_count, check_room, head_count
from hitclocks.errors import TooMany
from hitclocks.gaps import check_letters, taken_out
from hitclocks.programs import check_program, is_word_of

MOST_TAKEN_FROM = 8
SWARM = "s"


def check_swamped(program, intruder):
    """TooMany(64) for what swamped would make."""
    check_room(head_count(program) + head_count(intruder) + 2)


def swamped(program, intruder):
    """The program of the words into which words of the intruder came in so often as they like, also into these."""
    check_program(program)
    check_program(intruder)
    check_swamped(program, intruder)
    return swamped_so(program, intruder)


def swamped_so(program, intruder):
    """As swamped, without checks."""
    procedures = {}
    for sign, one in (("p", program), ("i", intruder)):
        names = new_names(sign, one)
        for name, body in one.procedures.items():
            procedures[names[name]] = swamped_body(body, names)
    procedures[SWARM] = ("any", ("call", new_names("i", intruder)[intruder.first]))
    procedures[FIRST] = ("then", (("call", new_names("p", program)[program.first]), ("call", SWARM)))
    return program_below(procedures, FIRST)


def swamped_body(body, names):
    """The body with whatever comes in ahead of each read, the procedures that are called being called so."""
    return changed(body, lambda leaf: swamped_leaf(leaf, names))


def swamped_leaf(leaf, names):
    """A read with whatever comes in ahead of it; a call by its new name."""
    if leaf[0] == "read":
        return ("then", (("call", SWARM), leaf))
    return ("call", names[leaf[1]])


def check_short(word):
    """TooMany(8) for a longer word."""
    if len(word) > MOST_TAKEN_FROM:
        raise TooMany(MOST_TAKEN_FROM)


class WordJudge:
    """Tells which words a program has, each one being looked up but once."""

    def __init__(self, program):
        self.program = program
        self.answers = {}

    def has_word(self, word):
        """Whether the program has a word."""
        if word not in self.answers:
            self.answers[word] = is_word_of(self.program, word)
        return self.answers[word]


def parted(program, intruder, count, word):
    """The least list of so many pieces of a word, words of the intruder, without which it is one of the program."""
    check_program(program)
    check_program(intruder)
    check_count(count)
    check_letters(word)
    check_broken(program, intruder, count)
    check_short(word)
    judge = WordJudge(intruder)
    lists = [[]]
    for _ in range(count):
        lists = [pieces + [piece] for pieces in lists for piece in pieces_behind(pieces, word, judge)]
    own = WordJudge(program)
    fitting = [pieces for pieces in lists if own.has_word(taken_out(word, pieces)[0])]
    return fitting[0] if fitting else None


def pieces_behind(pieces, word, judge):
    """The ascending list of the pieces behind those of a list that are words of the intruder."""
    first = pieces[-1][0] + pieces[-1][1] if pieces else 0
    found = []
    for start in range(first, len(word) + 1):
        for end in range(start, len(word) + 1):
            if judge.has_word(word[start:end]):
                found.append((start, end - start))
    return found


def reduced(program, intruder, word):
    """The least of the shortest lists of pieces that are taken out one after another; None if there is none."""
    check_program(program)
    check_program(intruder)
    check_letters(word)
    check_swamped(program, intruder)
    check_short(word)
    own = WordJudge(program)
    judge = WordJudge(intruder)
    seen = {word: True}
    layer = [(word, [])]
    while layer:
        for left, pieces in layer:
            if own.has_word(left):
                return pieces
        further = []
        # The lists of a layer ascend, so that the first one by which a word is left is the least one.
        for left, pieces in layer:
            for start, length in pieces_behind([], left, judge):
                rest = left[:start] + left[start + length:]
                if length > 0 and rest not in seen:
                    seen[rest] = True
                    further.append((rest, pieces + [(start, length)]))
        layer = further
    return None
