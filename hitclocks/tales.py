"""Tales: runs told by choices, in lists of entries that name earlier ones."""

from hitclocks.bodies import bodies_of_heads
from hitclocks.errors import BadNumber, BadTale, TooMany
from hitclocks.kinds import is_number_from
from hitclocks.leaves import needed_entries
from hitclocks.memories import check_memory
from hitclocks.programs import check_program_over
from hitclocks.telling import runs_told

MOST_TOLD = 2000


def checked_runs(memory, program, tale, with_gap):
    """What the entries tell; the errors of told."""
    check_memory(memory)
    check_program_over(memory, program)
    runs, fits, at = runs_told(memory, program, tale, with_gap)
    if not fits:
        raise BadTale(at)
    return runs


def told(memory, program, tale):
    """The list of the ends and pairs of the entries."""
    return [(run.end, (run.first, run.second)) for run in checked_runs(memory, program, tale, False)]


def is_tale(memory, program, thing):
    """Whether any value is a tale."""
    check_memory(memory)
    check_program_over(memory, program)
    return runs_told(memory, program, thing, False)[1]


def length_of(memory, program, tale):
    """How many letters the last entry reads."""
    return checked_runs(memory, program, tale, False)[-1].length


def told_gap(memory, program, tale):
    """The list of the ends, pairs and counts of the entries of a gap tale, the gap's first."""
    return [(run.end, (run.first, run.second), run.gaps) for run in checked_runs(memory, program, tale, True)]


def word_told(memory, program, tale, most):
    """The word that the last entry reads, of up to so many letters."""
    runs = checked_runs(memory, program, tale, False)
    if not is_number_from(most, 0, MOST_TOLD):
        raise BadNumber("not a number from 0 to 2000")
    if runs[-1].length > most:
        raise TooMany(most)
    words = {}
    for number, leaves in needed_entries(bodies_of_heads(program.procedures), tale, runs).items():
        words[number] = word_of_leaves(leaves, words)
    return words[len(tale) - 1]


def word_of_leaves(leaves, words):
    """The letters that an entry reads; those of the entries that it names are known, if they have any."""
    letters = []
    for leaf in leaves:
        if isinstance(leaf, str):
            letters.append(leaf)
        else:
            letters.extend(words.get(leaf, ()))
    return tuple(letters)
