"""What something else costs one and the same run, at most, at all prices."""

from hitclocks.broken import broken_at_place, broken_so_often, check_broken, check_broken_at, check_count, check_place
from hitclocks.broken import head_count
from hitclocks.cases import MOST_TRIPLES
from hitclocks.errors import TooMany
from hitclocks.memories import all_states, check_memory, check_state
from hitclocks.programs import check_letters_among, check_program, check_program_over, first_free, letters_of
from hitclocks.sides import check_alone, check_memories, pairs_and_memory, respelled_so
from hitclocks.swamped import check_swamped, swamped_so
from hitclocks.wholes import whole


def loss(one, other, program, state, against):
    """The front of what words of a program cost more in one memory than in another one."""
    check_memories(one, other)
    check_program_over(one, program)
    check_state(one, state)
    check_state(other, against)
    return whole_to_all(pairs_and_memory(one, other, state, against, {})[1], program)


def check_products(many, memory):
    """TooMany(2000) if so many heads times states times states are more."""
    if many * len(memory) * len(memory) > MOST_TRIPLES:
        raise TooMany(MOST_TRIPLES)


def whole_to_all(memory, program):
    """The front of what a program costs from state 0 to all states; TooMany(2000)."""
    return whole(memory, program, 0, all_states(memory))


def loss_marked(memory, alone, program, state):
    """The front of what words of a program cost more with the letters of alone than without them."""
    check_memory(memory)
    check_alone(memory, alone)
    check_program(program)
    check_letters_among(list(memory.letters) + list(alone.values()), program)
    check_state(memory, state)
    return whole_to_all(pairs_and_memory(memory, memory, state, state, alone)[1], program)


def new_letters(memory, intruder):
    """The dict from the letters of the intruder to ones that the memory does not have."""
    names = {}
    taken = {}
    for letter in memory.letters:
        taken[letter] = True
    for letter in letters_of(intruder):
        names[letter] = first_free("n", taken)
        taken[names[letter]] = True
    return names


def check_intruded(memory, program, intruder):
    """BadMemory, and BadProgram and NoLetter for either program."""
    check_memory(memory)
    check_program_over(memory, program)
    check_program_over(memory, intruder)


def marked_sides(memory, intruder, state, many):
    """The memory beside itself, the letters of the intruder marked, and the intruder so marked; TooMany."""
    names = new_letters(memory, intruder)
    both = pairs_and_memory(memory, memory, state, state, names)[1]
    check_products(many, both)
    return (both, respelled_so(intruder, names))


def loss_of_breaks(memory, program, intruder, count, state):
    """The front of what words of a program that are broken so often cost more than the words themselves."""
    check_intruded(memory, program, intruder)
    check_count(count)
    check_state(memory, state)
    check_broken(program, intruder, count)
    most = (count + 2) * head_count(program) + head_count(intruder) + 1
    both, marked = marked_sides(memory, intruder, state, most)
    return whole_to_all(both, broken_so_often(program, marked, count))


def loss_at(memory, program, intruder, place, state):
    """The front of what words of a program that are broken at a place cost more than the words themselves."""
    check_intruded(memory, program, intruder)
    check_place(program, place)
    check_state(memory, state)
    check_broken_at(program, intruder)
    most = 3 * head_count(program) + head_count(intruder) + 1
    both, marked = marked_sides(memory, intruder, state, most)
    return whole_to_all(both, broken_at_place(program, marked, place))


def loss_swamped(memory, program, intruder, state):
    """The front of what words cost more with any number of break-ins, also into what came in, than without them."""
    check_intruded(memory, program, intruder)
    check_state(memory, state)
    check_swamped(program, intruder)
    both, marked = marked_sides(memory, intruder, state, head_count(program) + head_count(intruder) + 3)
    return whole_to_all(both, swamped_so(program, marked))
