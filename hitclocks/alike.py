"""Two memories along all words: whether they pay the same, and which words part them."""

from hitclocks.lines import crossing, worth_at
from hitclocks.memories import Memory, check_memory, check_state, read
from hitclocks.sides import check_two

NO_PAIR = (0, 0)


def excess(one, other, state, against, word):
    """What a word costs more in one memory than in the other one."""
    check_two(one, other, state, against)
    a, b = read(one, state, word)[1]
    c, d = read(other, against, word)[1]
    return (a - c, b - d)


def first_apart(one, other, state, against, is_apart):
    """The first of the shortest words of whose steps the last one is apart; None if no step that is come to is so."""
    places = [(state, against)]
    known = {(state, against): True}
    ways = [()]
    number = 0
    while number < len(places):
        first, second = places[number]
        for column, letter in enumerate(one.letters):
            place, a, b = one.moves[first][column]
            follower, c, d = other.moves[second][column]
            if is_apart((a - c, b - d)):
                return word_of_ways(ways, number) + (letter,)
            if (place, follower) not in known:
                known[(place, follower)] = True
                places.append((place, follower))
                ways.append((number, letter))
        number += 1
    return None


def word_of_ways(ways, number):
    """The word that leads to a place; ways has for each one an earlier one and a letter, () where words begin."""
    letters = []
    while ways[number]:
        number, letter = ways[number]
        letters.append(letter)
    return tuple(letters[::-1])


def word_that_parts(one, other, state, against):
    """The first of the shortest words whose excess is not (0, 0); None if there is none."""
    return first_apart(one, other, state, against, lambda pair: pair != NO_PAIR)


def likeness(one, other, state, against):
    """At which prices the excess along every word is worth 0."""
    check_two(one, other, state, against)
    word = word_that_parts(one, other, state, against)
    if word is None:
        return ("all",)
    price = crossing(excess(one, other, state, against, word), NO_PAIR)
    if price is None:
        return ("never", (word,))
    further = first_apart(one, other, state, against, lambda pair: worth_at(pair, price) != 0)
    return ("at", price) if further is None else ("never", (word, further))


def parting(one, other, state, against):
    """The first of the shortest words whose excess is not (0, 0); None if there is none."""
    check_two(one, other, state, against)
    return word_that_parts(one, other, state, against)


def least_memory(memory, state):
    """The memory with the fewest states whose state 0 pays the same as a state, along every word."""
    check_memory(memory)
    check_state(memory, state)
    classes = alike_classes(memory)
    numbers = {classes[state]: 0}
    states = [state]
    moves = []
    while len(moves) < len(states):
        row = []
        for place, a, b in memory.moves[states[len(moves)]]:
            if classes[place] not in numbers:
                numbers[classes[place]] = len(states)
                states.append(place)
            row.append((numbers[classes[place]], a, b))
        moves.append(tuple(row))
    return Memory(memory.letters, tuple(moves))


def alike_classes(memory):
    """The list of numbers, by states, that are the same for states that are alike for all words."""
    classes = numbered([tuple([(a, b) for _, a, b in row]) for row in memory.moves])
    many = 0
    while max(classes) + 1 > many:
        many = max(classes) + 1
        finer = []
        for state, row in enumerate(memory.moves):
            finer.append((classes[state], tuple([classes[place] for place, _, _ in row])))
        classes = numbered(finer)
    return classes


def numbered(things):
    """The list of numbers from 0 on that are the same where these things are."""
    numbers = {}
    told = []
    for thing in things:
        told.append(numbers.setdefault(thing, len(numbers)))
    return told
