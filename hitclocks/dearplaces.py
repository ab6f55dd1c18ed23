"""What it costs that a program is broken at one of its places."""

from hitclocks.broken import broken_at_place, check_broken_at, head_count, places
from hitclocks.cases import MOST_TRIPLES
from hitclocks.errors import TooMany
from hitclocks.fronts import told_at
from hitclocks.memories import check_goals, check_memory, check_state
from hitclocks.prices import check_price
from hitclocks.programs import check_program_over
from hitclocks.wholes import whole


def check_broken_case(memory, program, intruder, start, goals):
    """BadMemory, BadProgram and NoLetter for either program, BadState, BadGoals."""
    check_memory(memory)
    check_program_over(memory, program)
    check_program_over(memory, intruder)
    check_state(memory, start)
    check_goals(memory, goals)


def place_fronts(memory, program, intruder, start, goals):
    """The list of the places of a program, each with the front of the program broken there."""
    check_broken_case(memory, program, intruder, start, goals)
    return fronts_by_place(memory, program, intruder, start, goals)


def fronts_by_place(memory, program, intruder, start, goals):
    """As place_fronts; TooMany alone is checked."""
    check_broken_at(program, intruder)
    many = 3 * head_count(program) + head_count(intruder) + 1
    if many * len(memory) * len(memory) > MOST_TRIPLES:
        raise TooMany(MOST_TRIPLES)
    fronts = []
    for place in places(program):
        fronts.append((place, whole(memory, broken_at_place(program, intruder, place), start, goals)))
    return fronts


def dearest_places(memory, program, intruder, start, goals, price):
    """The list of the places whose front is greatest at a price."""
    check_broken_case(memory, program, intruder, start, goals)
    check_price(price)
    worths = {}
    for place, front in fronts_by_place(memory, program, intruder, start, goals):
        worth = told_at(front, price)
        if worth is not None:
            worths[place] = worth
    if "endless" in list(worths.values()):
        return [place for place in worths if worths[place] == "endless"]
    most = max(list(worths.values()), default=0)
    return [place for place in worths if worths[place] == most]
