"""Monitors: which words of some letters are let."""

from hitclocks.alike import numbered
from hitclocks.errors import BadLot, BadMonitor, BadNumber, BadWord, TooMany
from hitclocks.kinds import is_ascending, is_number_from, is_row_of_letters, is_tuple_among, is_tuple_of
from hitclocks.memories import MOST_LETTERS

MOST_STATES = 40
MOST_COUNTED = 9
MOST_STEP = 9
MOST_WORD = 9


class Monitor:
    """Goes from state to state by letters; lets the words that lead from state 0 to some states."""

    def __init__(self, letters, moves, lets):
        if not is_row_of_letters(letters, MOST_LETTERS):
            raise BadMonitor("letters")
        if not isinstance(moves, tuple) or not 1 <= len(moves) <= MOST_STATES:
            raise BadMonitor("moves")
        for state, row in enumerate(moves):
            if not is_tuple_of(row, len(letters)) or not are_states(row, len(moves)):
                raise BadMonitor(state)
        if not isinstance(lets, tuple) or not are_states(lets, len(moves)) or not is_ascending(lets):
            raise BadMonitor("lets")
        self.letters = letters
        self.moves = moves
        self.lets = lets

    def __len__(self):
        return len(self.moves)

    def __contains__(self, thing):
        return is_tuple_among(thing, self.letters) and state_behind(self, thing) in self.lets

    def __eq__(self, other):
        if not isinstance(other, Monitor) or self.letters != other.letters:
            return False
        return least_form(self.moves, self.lets) == least_form(other.moves, other.lets)

    def __invert__(self):
        return least_of(self.letters, self.moves, states_without(self.moves, self.lets))

    def __and__(self, other):
        check_same_letters(self, other)
        pairs = pairs_met(self.moves, other.moves)
        lets = [at for at, (one, two) in enumerate(pairs) if one in self.lets and two in other.lets]
        return least_of(self.letters, moves_of_pairs(pairs, self.moves, other.moves), tuple(lets))

    def __or__(self, other):
        check_same_letters(self, other)
        pairs = pairs_met(self.moves, other.moves)
        lets = [at for at, (one, two) in enumerate(pairs) if one in self.lets or two in other.lets]
        return least_of(self.letters, moves_of_pairs(pairs, self.moves, other.moves), tuple(lets))


def are_states(things, many):
    """Whether all of these are among so many states."""
    for thing in things:
        if not is_number_from(thing, 0, many - 1):
            return False
    return True


def state_behind(monitor, word):
    """The state to which a word leads."""
    state = 0
    for letter in word:
        state = monitor.moves[state][monitor.letters.index(letter)]
    return state


def check_monitor(monitor):
    """BadMonitor(None) unless it is a Monitor."""
    if not isinstance(monitor, Monitor):
        raise BadMonitor(None)


def check_same_letters(lettered, other):
    """BadMonitor("letters") unless it is a Monitor with the same letters as another one, or a memory."""
    if not isinstance(other, Monitor) or lettered.letters != other.letters:
        raise BadMonitor("letters")


def states_without(moves, lets):
    """The ascending tuple of the states that are none of these."""
    return tuple([state for state in range(len(moves)) if state not in lets])


def pairs_met(moves, other):
    """The list of the pairs of states to which words lead, in the order in which they are met."""
    pairs = [(0, 0)]
    known = {(0, 0): True}
    number = 0
    while number < len(pairs):
        one, two = pairs[number]
        for pair in zip(moves[one], other[two]):
            if pair not in known:
                known[pair] = True
                pairs.append(pair)
        number += 1
    return pairs


def moves_of_pairs(pairs, moves, other):
    """The moves among these pairs, by their places in the list."""
    numbers = {}
    for pair in pairs:
        numbers[pair] = len(numbers)
    return tuple([tuple([numbers[pair] for pair in zip(moves[one], other[two])]) for one, two in pairs])


def least_of(letters, moves, lets):
    """The least monitor that goes by these moves, of however many states, and lets by these states; TooMany(40)."""
    least_moves, least_lets = least_form(moves, lets)
    return Monitor(letters, least_moves, least_lets)


def least_form(moves, lets):
    """The moves and the lets of the least monitor that goes so, its states in the order in which they are met."""
    states = states_met(moves)
    numbers = {}
    for state in states:
        numbers[state] = len(numbers)
    rows = [[numbers[place] for place in moves[state]] for state in states]
    # As the states stand in the order in which they are met, their classes are numbered in that order, too.
    classes = classes_of(rows, [state in lets for state in states])
    found = {}
    for number, row in zip(classes, rows):
        found[number] = tuple([classes[place] for place in row])
    lasts = {}
    for number, state in zip(classes, states):
        if state in lets:
            lasts[number] = True
    return (tuple([found[number] for number in range(len(found))]), tuple(sorted(lasts)))


def states_met(moves):
    """The list of the states to which words lead, in the order in which they are met."""
    states = [0]
    known = {0: True}
    number = 0
    while number < len(states):
        for place in moves[states[number]]:
            if place not in known:
                known[place] = True
                states.append(place)
        number += 1
    return states


def classes_of(rows, let):
    """The list of numbers, by states, that are the same for states behind which the same words are let; TooMany(40)."""
    classes = numbered(let)
    many = 0
    while max(classes) + 1 > many:
        many = max(classes) + 1
        if many > MOST_STATES:
            raise TooMany(MOST_STATES)
        classes = numbered([(own, tuple([classes[place] for place in row])) for own, row in zip(classes, rows)])
    return classes


def least_monitor(monitor):
    """The monitor with the fewest states that lets the same words."""
    check_monitor(monitor)
    return least_of(monitor.letters, monitor.moves, monitor.lets)


def check_letters(letters):
    """BadMonitor("letters") unless they are such as a monitor has."""
    if not is_row_of_letters(letters, MOST_LETTERS):
        raise BadMonitor("letters")


def check_lot(letters, some):
    """BadLot unless it is an ascending tuple of different ones of these letters."""
    if not is_tuple_among(some, letters) or not is_ascending(some):
        raise BadLot("not an ascending tuple of different ones of the letters")


def barring(letters, some):
    """The monitor of the words without a letter of some."""
    check_letters(letters)
    check_lot(letters, some)
    return made_counting(letters, some, 0, (0,))


def at_most(letters, some, number):
    """The monitor of the words with at most so many letters of some."""
    check_counted(letters, some, number)
    return made_counting(letters, some, number, tuple(range(number + 1)))


def just(letters, some, number):
    """The monitor of the words with just so many letters of some."""
    check_counted(letters, some, number)
    return made_counting(letters, some, number, (number,))


def check_counted(letters, some, number):
    """BadMonitor("letters"), BadLot, BadNumber."""
    check_letters(letters)
    check_lot(letters, some)
    if not is_number_from(number, 0, MOST_COUNTED):
        raise BadNumber("not a number from 0 to 9")


def made_counting(letters, some, most, lets):
    """The least monitor whose state is how many letters of some there are, up to one more than most."""
    moves = []
    for state in range(most + 2):
        moves.append(tuple([min(state + 1, most + 1) if letter in some else state for letter in letters]))
    return least_of(letters, tuple(moves), lets)


def counted(letters, some, step, rest):
    """The monitor of the words in which the number of letters of some leaves a rest."""
    check_letters(letters)
    check_lot(letters, some)
    if not is_number_from(step, 1, MOST_STEP):
        raise BadNumber("step is not a number from 1 to 9")
    if not is_number_from(rest, 0, step - 1):
        raise BadNumber("rest is not a number from 0 and less than step")
    moves = []
    for state in range(step):
        moves.append(tuple([(state + 1) % step if letter in some else state for letter in letters]))
    return least_of(letters, tuple(moves), (rest,))


def behind(letters, early, late):
    """The monitor of the words in which ahead of each letter of late there stands another letter, of early."""
    check_letters(letters)
    check_lot(letters, early)
    check_lot(letters, late)
    first = []
    for letter in letters:
        if letter in late:
            first.append(2)
        else:
            first.append(1 if letter in early else 0)
    return least_of(letters, (tuple(first), (1,) * len(letters), (2,) * len(letters)), (0, 1))


def having(letters, word):
    """The monitor of the words in which a word stands in one stretch."""
    check_letters(letters)
    if not is_tuple_among(word, letters) or len(word) > MOST_WORD:
        raise BadWord("not a tuple of 0 to 9 of the letters")
    moves = []
    for state in range(len(word)):
        moves.append(tuple([longest_begun(word, word[:state] + (letter,)) for letter in letters]))
    moves.append((len(word),) * len(letters))
    return least_of(letters, tuple(moves), (len(word),))


def longest_begun(word, letters):
    """How many letters of a word, from its first one on, stand at the end of these letters."""
    many = len(letters)
    while letters[len(letters) - many:] != word[:many]:
        many -= 1
    return many
