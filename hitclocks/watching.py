"""Memories watched by monitors, and letters without which a bound is kept."""

from hitclocks.bodies import NO_WORD, changed
from hitclocks.cases import MOST_TRIPLES, check_case, check_triples
from hitclocks.errors import TooMany
from hitclocks.fronts import check_front, join_of
from hitclocks.heads import heads
from hitclocks.memories import MOST_STATES, Memory, check_goals, check_memory
from hitclocks.monitors import check_monitor, check_same_letters
from hitclocks.programs import letters_of, made_program
from hitclocks.wholes import front_of_runs

MOST_BANNED = 8


def check_watching(memory, monitor):
    """BadMonitor(None), BadMonitor("letters") unless it has the letters of the memory."""
    check_monitor(monitor)
    check_same_letters(memory, monitor)


def watched(memory, monitor):
    """The memory that goes along with a monitor, and pays as it does alone."""
    check_memory(memory)
    check_watching(memory, monitor)
    if len(memory) * len(monitor) > MOST_STATES:
        raise TooMany(MOST_STATES)
    return watched_so(memory, monitor)


def watched_so(memory, monitor):
    """As watched, without checks."""
    moves = []
    for row in memory.moves:
        for watch in monitor.moves:
            steps = list(zip(row, watch))
            moves.append(tuple([(place * len(monitor) + follower, a, b) for (place, a, b), follower in steps]))
    return Memory(memory.letters, tuple(moves))


def watched_goals(memory, goals, monitor):
    """The ascending tuple of the states of the watched memory that are goals, with what the monitor lets."""
    check_memory(memory)
    check_goals(memory, goals)
    check_watching(memory, monitor)
    return tuple([goal * len(monitor) + let for goal in goals for let in monitor.lets])


def watched_whole(memory, program, start, goals, monitor):
    """The front of the runs whose words a monitor lets."""
    check_case(memory, program, start, goals)
    check_watching(memory, monitor)
    many = len(memory) * len(monitor)
    if len(heads(program)) * many * many > MOST_TRIPLES:
        raise TooMany(MOST_TRIPLES)
    last = watched_goals(memory, goals, monitor)
    return front_of_runs(watched_so(memory, monitor), program, start * len(monitor), last) if last else None


def least_bans(memory, program, start, goals, bound):
    """The ascending list of the least lots of letters without which the front of the runs is below a bound."""
    check_case(memory, program, start, goals)
    check_front(bound)
    letters = letters_of(program)
    if len(letters) > MOST_BANNED:
        raise TooMany(MOST_BANNED)
    check_triples(memory, program)
    found = []
    lots = [()]
    while lots:
        longer = []
        for lot in lots:
            if has_one_of(lot, found):
                continue
            front = front_of_runs(memory, without(program, lot), start, goals)
            if join_of(front, bound) == bound:
                found.append(lot)
            else:
                longer.extend([lot + (letter,) for letter in letters if not lot or lot[-1] < letter])
        lots = longer
    return sorted(found)


def has_one_of(lot, others):
    """Whether a lot has all letters of one of the others."""
    for other in others:
        if len([letter for letter in other if letter in lot]) == len(other):
            return True
    return False


def without(program, lot):
    """The program without the words that have a letter of a lot."""
    procedures = {}
    for name, body in program.procedures.items():
        procedures[name] = changed(body, lambda leaf: NO_WORD if leaf[0] == "read" and leaf[1] in lot else leaf)
    return made_program(procedures, program.first)
