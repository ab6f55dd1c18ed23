"""Two memories side by side, and programs with other letters."""

from hitclocks.bodies import changed
from hitclocks.errors import BadMemory, BadNames, TooMany
from hitclocks.kinds import has_just_keys, is_letter
from hitclocks.memories import MOST_LETTERS, MOST_PAID, MOST_STATES, Memory, check_memory, check_state
from hitclocks.programs import check_program, letters_of, made_program


def check_two(one, other, state, against):
    """BadMemory for each and for unlike letters, BadState for each."""
    check_memories(one, other)
    check_state(one, state)
    check_state(other, against)


def check_memories(one, other):
    """BadMemory(None) for each, BadMemory("letters") unless they have the same letters."""
    check_memory(one)
    check_memory(other)
    if one.letters != other.letters:
        raise BadMemory("letters")


def check_alone(memory, alone):
    """BadNames unless it is a dict from some letters to different ones that the memory does not have."""
    if not isinstance(alone, dict):
        raise BadNames("not a dict")
    used = {}
    for letter, name in alone.items():
        if not isinstance(letter, str) or letter not in memory.letters:
            raise BadNames("not a letter of the memory")
        if not is_letter(name) or name in memory.letters or name in used:
            raise BadNames("not a new letter")
        used[name] = True


def beside(one, other, state, against, alone):
    """The memory of what the one pays less what the other pays, as one reads some letters alone."""
    check_two(one, other, state, against)
    check_alone(one, alone)
    return pairs_and_memory(one, other, state, against, alone)[1]


def sides(one, other, state, against, alone):
    """The list of the pairs of states that the states of beside stand for."""
    check_two(one, other, state, against)
    check_alone(one, alone)
    return pairs_and_memory(one, other, state, against, alone)[0]


def pairs_and_memory(one, other, state, against, alone):
    """The pairs of states in the order in which they are met, and the memory over them; TooMany."""
    readers = readers_of(one, alone)
    letters = tuple(readers)
    if len(letters) > MOST_LETTERS:
        raise TooMany(MOST_LETTERS)
    pairs = [(state, against)]
    numbers = {(state, against): 0}
    moves = []
    while len(moves) < len(pairs):
        first, second = pairs[len(moves)]
        row = []
        for column, is_alone in readers.values():
            place, a, b = one.moves[first][column]
            follower, c, d = (second, 0, 0) if is_alone else other.moves[second][column]
            if (place, follower) not in numbers:
                numbers[(place, follower)] = len(pairs)
                pairs.append((place, follower))
            row.append((numbers[(place, follower)], a - c, b - d))
        if len(pairs) > MOST_STATES:
            raise TooMany(MOST_STATES)
        moves.append(tuple(row))
    check_paid(moves)
    return (pairs, Memory(letters, tuple(moves)))


def readers_of(memory, alone):
    """The dict from the letters, ascending, to their columns and whether they are read by one memory alone."""
    readers = {}
    for column, letter in enumerate(memory.letters):
        readers[letter] = (column, False)
        if letter in alone:
            readers[alone[letter]] = (column, True)
    ordered = {}
    for letter in sorted(readers):
        ordered[letter] = readers[letter]
    return ordered


def check_paid(moves):
    """TooMany(999) if a number to be paid is too great or too small."""
    for row in moves:
        for _, a, b in row:
            if max(abs(a), abs(b)) > MOST_PAID:
                raise TooMany(MOST_PAID)


def respelled(program, names):
    """The program with other letters in the place of its own."""
    check_program(program)
    if not isinstance(names, dict) or not has_just_keys(names, letters_of(program)):
        raise BadNames("not a dict from just the letters of the program")
    for name in names.values():
        if not is_letter(name):
            raise BadNames("not a letter")
    return respelled_so(program, names)


def respelled_so(program, names):
    """As respelled, without checks."""
    procedures = {}
    for name, body in program.procedures.items():
        procedures[name] = changed(body, lambda leaf: ("read", names[leaf[1]]) if leaf[0] == "read" else leaf)
    return made_program(procedures, program.first)
