"""What is asked of a memory and a program together, with a start and goals."""

from hitclocks.errors import TooMany
from hitclocks.heads import heads
from hitclocks.memories import check_goals, check_memory, check_state
from hitclocks.programs import check_program_over

MOST_TRIPLES = 2000


def check_case(memory, program, start, goals):
    """BadMemory, BadProgram, NoLetter, BadState, BadGoals."""
    check_memory(memory)
    check_program_over(memory, program)
    check_state(memory, start)
    check_goals(memory, goals)


def check_triples(memory, program):
    """TooMany(2000) if there are more triples of a head and two states."""
    if len(heads(program)) * len(memory) * len(memory) > MOST_TRIPLES:
        raise TooMany(MOST_TRIPLES)
