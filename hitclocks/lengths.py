"""Runs by their lengths."""

from hitclocks.cases import check_case, check_triples
from hitclocks.errors import BadLetters, BadNumber
from hitclocks.findings import Finding
from hitclocks.fronts import join_of
from hitclocks.grammars import Grammar
from hitclocks.kinds import is_number_from, is_row_of_letters
from hitclocks.layers import CornerValues, Layers, WordValues
from hitclocks.lines import AHEAD_OF_ALL, BEHIND_ALL
from hitclocks.memories import Memory, check_memory, negated
from hitclocks.prices import check_price
from hitclocks.programs import Program
from hitclocks.searches import steps_at

MOST_FREE = 64
READS_BESIDE = 8
MOST_LENGTH = 24


def free(letters):
    """The program of all words of these letters."""
    if not is_row_of_letters(letters, MOST_FREE):
        raise BadLetters("not an ascending tuple of 1 to 64 letters")
    reads = tuple([("read", letter) for letter in letters])
    if len(reads) > READS_BESIDE:
        reads = tuple([("either", reads[at:at + READS_BESIDE]) for at in range(0, len(reads), READS_BESIDE)])
    return Program({"all": ("any", ("either", reads))}, "all")


def tallied(memory):
    """The memory in which each step costs (1, 0)."""
    check_memory(memory)
    moves = []
    for row in memory.moves:
        moves.append(tuple([(place, 1, 0) for place, _, _ in row]))
    return Memory(memory.letters, tuple(moves))


def longest(memory, program, start, goals):
    """The greatest length of a run: None without runs, "endless" without a bound."""
    check_case(memory, program, start, goals)
    check_triples(memory, program)
    return Finding(program, steps_at(tallied(memory), AHEAD_OF_ALL), start, goals).greatest()


def least_length(memory, program, start, goals):
    """The least length of a run; None without runs."""
    check_case(memory, program, start, goals)
    check_triples(memory, program)
    most = Finding(program, steps_at(negated(tallied(memory)), AHEAD_OF_ALL), start, goals).greatest()
    return None if most is None else -most


def check_length(number):
    """BadNumber unless it is a number from 0 to 24."""
    if not is_number_from(number, 0, MOST_LENGTH):
        raise BadNumber("not a number from 0 to 24")


def by_length(memory, program, start, goals, most):
    """The list of the fronts of the runs of each length up to most."""
    check_case(memory, program, start, goals)
    check_length(most)
    check_triples(memory, program)
    fronts = []
    for corners in best_by_length(memory, program, start, goals, most, CornerValues()):
        fronts.append(None if corners is None else ("over", AHEAD_OF_ALL, BEHIND_ALL, corners))
    return fronts


def best_by_length(memory, program, start, goals, most, kind):
    """The list of the values of the runs of each length up to most, None without runs."""
    grammar = Grammar(program.procedures)
    first = grammar.numbers[(program.first,)]
    layers = Layers(grammar, memory, first, kind)
    for _ in range(most):
        layers.grow()
    return [best_of([row[goal] for goal in goals if goal in row], kind) for row in layers.rows[(first, start)]]


def best_of(told, kind):
    """The value of what is done as one of some; None if there are none."""
    best = None
    for value in told:
        best = value if best is None else kind.better_of(best, value)
    return best


def within_length(memory, program, start, goals, most):
    """The front of the runs of at most this length."""
    front = None
    for one in by_length(memory, program, start, goals, most):
        front = join_of(front, one)
    return front


def dearest_word(memory, program, start, goals, number, price):
    """The greatest worth of the runs of this length, and the first word of such a run; None without runs."""
    check_case(memory, program, start, goals)
    check_length(number)
    check_price(price)
    check_triples(memory, program)
    best = best_by_length(memory, program, start, goals, number, WordValues(price))[number]
    return None if best is None else (-best[0], best[1])
