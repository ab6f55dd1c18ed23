"""Memories: what each letter costs in each state, and where it leads."""

from hitclocks.errors import BadGoals, BadLetter, BadMemory, BadNames, BadState, BadWord
from hitclocks.kinds import has_just_keys, is_among, is_ascending, is_letter, is_number_from
from hitclocks.kinds import is_row_of_letters, is_tuple_among, is_tuple_of

MOST_LETTERS = 72
MOST_STATES = 120
MOST_PAID = 999


class Memory:
    """Answers each letter, in each state, with the next state and two numbers."""

    def __init__(self, letters, moves):
        if not is_row_of_letters(letters, MOST_LETTERS):
            raise BadMemory("letters")
        if not isinstance(moves, tuple) or not 1 <= len(moves) <= MOST_STATES:
            raise BadMemory("moves")
        for state, row in enumerate(moves):
            if not is_row_of_moves(row, len(letters), len(moves)):
                raise BadMemory(state)
        self.letters = letters
        self.moves = moves

    def __len__(self):
        return len(self.moves)

    def __eq__(self, other):
        return isinstance(other, Memory) and self.letters == other.letters and self.moves == other.moves


def is_row_of_moves(row, letters, states):
    """Whether it is a tuple with a move for each of so many letters."""
    if not is_tuple_of(row, letters):
        return False
    for move in row:
        if not is_move(move, states):
            return False
    return True


def is_move(move, states):
    """Whether it is a triple of one of so many states and two numbers to be paid."""
    if not is_tuple_of(move, 3) or not is_number_from(move[0], 0, states - 1):
        return False
    return is_number_from(move[1], -MOST_PAID, MOST_PAID) and is_number_from(move[2], -MOST_PAID, MOST_PAID)


def check_memory(memory):
    """BadMemory(None) unless it is a Memory."""
    if not isinstance(memory, Memory):
        raise BadMemory(None)


def is_state(memory, thing):
    """Whether any value is a state of the memory."""
    return is_number_from(thing, 0, len(memory) - 1)


def check_state(memory, state):
    """BadState unless it is a state of the memory."""
    if not is_state(memory, state):
        raise BadState("not a state of the memory")


def all_states(memory):
    """The ascending tuple of all states of the memory."""
    return tuple(range(len(memory)))


def check_goals(memory, goals):
    """BadGoals unless it is an ascending tuple of one or more different states."""
    if not isinstance(goals, tuple) or len(goals) == 0:
        raise BadGoals("not a tuple of one or more states")
    for goal in goals:
        if not is_state(memory, goal):
            raise BadGoals("a goal is not a state of the memory")
    if not is_ascending(goals):
        raise BadGoals("the goals are not ascending")


def check_word(memory, word):
    """BadWord unless it is a tuple of letters of the memory."""
    if not is_tuple_among(word, memory.letters):
        raise BadWord("not a tuple of letters of the memory")


def check_letter(memory, letter):
    """BadLetter unless it is a letter of the memory."""
    if not is_among(letter, memory.letters):
        raise BadLetter("not a letter of the memory")


def stepped(memory, state, letter):
    """The next state, and the pair that is paid."""
    check_memory(memory)
    check_state(memory, state)
    check_letter(memory, letter)
    return step_of(memory, state, letter)


def step_of(memory, state, letter):
    """As stepped, without checks."""
    place, a, b = memory.moves[state][memory.letters.index(letter)]
    return (place, (a, b))


def read(memory, state, word):
    """The last state, and the sum of the pairs along a word."""
    check_memory(memory)
    check_state(memory, state)
    check_word(memory, word)
    return read_along(memory, state, word)


def read_along(memory, state, word):
    """As read, without checks."""
    columns = columns_of(memory)
    place, first, second = state, 0, 0
    for letter in word:
        place, a, b = memory.moves[place][columns[letter]]
        first += a
        second += b
    return (place, (first, second))


def steps_by(memory, tell):
    """For each state the dict from the letters to the next state and what is told of the pair that is paid."""
    steps = []
    for row in memory.moves:
        answers = {}
        for letter, (place, a, b) in zip(memory.letters, row):
            answers[letter] = (place, tell((a, b)))
        steps.append(answers)
    return steps


def columns_of(memory):
    """The dict from the letters to their indexes in each row of moves."""
    columns = {}
    for column, letter in enumerate(memory.letters):
        columns[letter] = column
    return columns


def negated(memory):
    """The memory in which all pairs are turned."""
    check_memory(memory)
    moves = []
    for row in memory.moves:
        moves.append(tuple([(place, -a, -b) for place, a, b in row]))
    return Memory(memory.letters, tuple(moves))


def relettered(memory, names):
    """The memory whose letters are called as a dict tells."""
    check_memory(memory)
    check_names(memory, names)
    called = {}
    for column, letter in enumerate(memory.letters):
        called[names[letter]] = column
    letters = tuple(sorted(called))
    columns = [called[letter] for letter in letters]
    moves = []
    for row in memory.moves:
        moves.append(tuple([row[column] for column in columns]))
    return Memory(letters, tuple(moves))


def check_names(memory, names):
    """BadNames unless it is a dict from just the letters to different letters."""
    if not isinstance(names, dict) or not has_just_keys(names, memory.letters):
        raise BadNames("not a dict from just the letters of the memory")
    used = {}
    for letter in memory.letters:
        name = names[letter]
        if not is_letter(name) or name in used:
            raise BadNames("not a new letter")
        used[name] = True
